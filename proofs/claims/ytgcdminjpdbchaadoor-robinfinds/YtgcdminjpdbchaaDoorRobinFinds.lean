/- For every seed, all calls and every key the law RobinFinds returns true: any key is found in a table's slots by going from its home on, till one that is not used, or whose Dist is less than how far one has come; and is there, just if Get tells so. -/
import Derived.Test.YtgcdminjpdbchaaDoorRbOps
import Derived.Test.YtgcdminjpdbchaaDoorRbF
import Derived.Test.YtgcdminjpdbchaaDoorRows
import Derived.ShutString
import Derived.Deep.RegionHeld3
namespace Go.Proofs.YtgcdminjpdbchaaDoor.robinFinds
open Go.ChangeShapes Go.WideShapes Go.ChangeAt Go.RowKit
open Go.ChangeMaps (open_string shut_string)
set_option linter.unusedVariables false

/-- Slots that lie in a row of their own. -/
structure Cells (w : World) (g : Nat) (s : List RS) : Prop where
  lt : g < w.heap.size
  at_ : ∀ i, i < 16 → w.cell? ⟨g, i * 4, none⟩ = some (.bool (atS s i).u) ∧ w.cell? ⟨g, i * 4 + 1, none⟩ = some (.string (atS s i).k) ∧ w.cell? ⟨g, i * 4 + 2, none⟩ = some (.int .i64 (atS s i).v) ∧ w.cell? ⟨g, i * 4 + 3, none⟩ = some (.int .i64 ((atS s i).d : Int))
theorem Cells.below {w w' : World} {g : Nat} {s : List RS} (h : Cells w g s) (hb : Below w.heap.size w w') : Cells w' g s :=
  ⟨Nat.lt_of_lt_of_le h.lt hb.size, fun i hi => by
    have := h.at_ i hi
    have hl := h.lt
    exact ⟨(hb.cell (p := ⟨g, _, none⟩) hl).trans this.1, (hb.cell (p := ⟨g, _, none⟩) hl).trans this.2.1, (hb.cell (p := ⟨g, _, none⟩) hl).trans this.2.2.1, (hb.cell (p := ⟨g, _, none⟩) hl).trans this.2.2.2⟩⟩
theorem wrM (h e : Nat) (hh : h < 16) (he : e < 16) : (((h : Int) + (e : Int)).tmod 16) = ((wr_ 16 (h + e) : Nat) : Int) := by
  unfold wr_
  split <;> (rw [Int.tmod_eq_emod_of_nonneg (by omega)]; omega)
set_option maxRecDepth 100000 in
set_option maxHeartbeats 0 in
theorem walk1 (seed : Nat) (A : Option Addr) (len cap : Nat) (L : Nat → OpR) (key : ByteArray) (hs : U seed) (W1 : World) (ho : OpsAt W1 A len cap L) (hx : key.size ≤ maxLen) (ht : TabW W1) :
    Calls Tryd.prog 5 #[.int .u64 (seed : Int), .slice A len cap, .string key] W1 fun e w' => e = .returned (.bool true) ∧ Below W1.heap.size W1 w' := by
  have HO := Lib.hid (fun w' (h : Below W1.heap.size W1 w') => ho.below h)
  have HT := Lib.hid (fun w' (h : Below W1.heap.size W1 w') => ht.below h)
  have HN := Lib.hid (New_T seed 4 W1 hs (by decide) (by decide))
  have HSD := Lib.hid hs
  obtain ⟨q1, q2, q3⟩ := ho
  have HQ := Lib.hid q3
  have HSX := Lib.hid hx
  unfold maxLen at q2
  clear ht hs q3
  unfold maxLen at hx
  go_enter Tryd.func5, Tryd.ntmps5
  go_wp2_with fail
  refine HN.out.mono ?_
  rintro e w1 ⟨bP, bS, rfl, hT, hB, h1, h2⟩
  have HI := Lib.hid hT
  have HB := Lib.hid hB
  have HBK := Lib.hid (fun w' w'' (h : Below W1.heap.size W1 w') (k : Kept (fun b => b = bS) w' w'') => h.trans (k.below (B := W1.heap.size) h.size (fun i hi hf => by omega)))
  clear hT hB h1 h2 HN
  go_wp2_with fail
  refine (few_any A len cap L 60 w1 (HO.out w1 HB.out)).mono ?_
  rintro e w2 ⟨r, rfl, rfl, hr⟩
  cases r with
  | false =>
    clear hr
    go_wp2_with fail
    refine (live_any w1 (HT.out _ HB.out)).mono ?_
    rintro e w2 ⟨rfl, hb⟩
    have HB2 := Lib.hid (HB.out.trans (hb.mono HB.out.size))
    clear hb
    go_wp2
    go_ret
    exact ⟨rfl, HB2.out⟩
  | true =>
    obtain ⟨hl, hks⟩ := hr rfl
    have HKS := Lib.hid hks
    have hlen : len ≤ 60 := by omega
    clear hr hks hl
    by_cases hbx : 100 < key.size
    · go_wp2_with fail
      refine (live_any w1 (HT.out _ HB.out)).mono ?_
      rintro e w2 ⟨rfl, hb⟩
      have HB2 := Lib.hid (HB.out.trans (hb.mono HB.out.size))
      clear hb
      go_wp2
      go_ret
      exact ⟨rfl, HB2.out⟩
    · go_wp2_with fail
      go_loopw [9] (fun i wr => ∃ (j : Nat) (M : ByteArray → Option Int) (c : Nat), j ≤ len ∧ i = .int .i64 (j : Int) ∧ Hid (TT wr bP bS seed 4 M c) ∧ Hid (Below W1.heap.size W1 wr)) (fun i _ => len - (intOf i).toNat)
      case atStart => exact ⟨0, _, 0, Nat.zero_le _, rfl, HI, HB⟩
      case round =>
        obtain ⟨j, M, c, hj, rfl, HIw, HBw⟩ := hrel
        by_cases hlt : j < len
        · have ops := HO.out wr HBw.out
          obtain ⟨b, off, rfl, hb, hall⟩ := ops.2.2 (by omega)
          have hbl : b < wr.heap.size := hb
          have HOP := Lib.hid (hall j hlt)
          have c0 := (hall j hlt).c0
          have c1 := (hall j hlt).c1
          have c2 := (hall j hlt).c2
          clear ops hall hb
          by_cases g0 : (L j).d = 0
          · rw [g0] at c0
            have HC := Lib.hid (Put_T bP bS seed 4 M c (L j).k (L j).v wr.drew (HIw.out.below (Below.refl _ _).drew) (HT.out _ HBw.out.drew) (HOP.out.w1) (HOP.out.w2))
            have CL := Lib.hid (fun w' (h : Below W1.heap.size W1 w') => show w'.cell? ⟨b, off + j * 3 + 1, none⟩ = some (.string (L j).k) ∧ w'.cell? ⟨b, off + j * 3 + 2, none⟩ = some (.int .i64 (L j).v) from by
              obtain ⟨b', off', e, _, hall'⟩ := (HO.out w' h).2.2 (by omega)
              cases e
              exact ⟨(hall' j hlt).c1, (hall' j hlt).c2⟩)
            clear HIw
            go_wp2_with fail
            go_region_held3 (fun w' => w'.cell? ⟨b, off + j * 3 + 1, none⟩ = some (.string (L j).k) ∧ w'.cell? ⟨b, off + j * 3 + 2, none⟩ = some (.int .i64 (L j).v)) (first | exact ⟨c1, c2⟩ | (with_reducible exact CL.out _ HB2.out) | go_keep) (first | (go_at_call 21; refine HC.out.mono ?_; rintro e w2 ⟨rfl, hT, hK⟩; have HI2 := Lib.hid hT; have HB2 := Lib.hid (HBK.out _ _ HBw.out.drew hK); clear hT hK HC))
            go_wp2
            go_roundw
            case rel => exact ⟨j + 1, _, _, by omega, by go_num, HI2, HB2⟩
            case measure => simp [intOf]; omega
          · have g1 : ((L j).d == 0) = false := by simp [g0]
            by_cases g2 : (L j).d = 2
            · rw [g2] at c0
              have HC := Lib.hid (Delete_T bP bS seed 4 M c (L j).k wr HIw.out (HT.out _ HBw.out) (HOP.out.w1))
              clear HIw
              go_wp2_with fail
              refine HC.out.mono ?_
              rintro e w2 ⟨rfl, hT, hK⟩
              have HI2 := Lib.hid hT
              have HB2 := Lib.hid (HBK.out _ _ HBw.out hK.1)
              clear hT hK HC
              go_wp2
              go_roundw
              case rel => exact ⟨j + 1, _, _, by omega, by go_num, HI2, HB2⟩
              case measure => simp [intOf]; omega
            · have g3 : ((L j).d == 2) = false := by simp [g2]
              go_wp2_with fail
              go_roundw
              case rel => exact ⟨j + 1, _, _, by omega, by go_num, HIw, HBw⟩
              case measure => simp [intOf]; omega
        · clear HI HB HQ HKS
          obtain ⟨s, hTb, hM, hc⟩ := HIw.out
          have HTb := Lib.hid hTb
          have hsl : s.length = 16 := hTb.we.len
          have HS := Lib.hid (Slots_any bP bS seed 4 _ s wr hTb)
          have HSL := Lib.hid hsl
          clear hTb hM hc HIw
          go_wp2_with fail
          refine HS.out.mono ?_
          rintro e w2 ⟨v, rfl, hv, hb⟩
          have hlr := HBw.out.size
          rw [HSL.out] at hv
          obtain ⟨g, gc, rfl, hgc, hg1, hg2, hcs⟩ := slot_cells hv HSL.out (by decide)
          have HC2 := Lib.hid (Cells.mk hg2 hcs)
          have HB2 := Lib.hid (HBw.out.trans (hb.mono HBw.out.size))
          have HT2 := Lib.hid (HTb.out.below hb)
          clear hv hcs hb HS HTb HBw hsl
          go_wp2_with fail
          refine (rSum_any _ seed key w2 rfl HSX.out HSD.out).mono ?_
          rintro e w3 ⟨rfl, rfl⟩
          go_wp2_with fail
          refine (rHomeK _ seed 4 key w2 rfl (sumN_u HSD.out (key_u HSX.out)) (by decide) (by decide) HSX.out).mono ?_
          rintro e w3 ⟨rfl, rfl⟩
          have hh16 : hmF seed 4 key < 16 := hmF_lt HSD.out (by decide) rfl key HSX.out
          have HH := Lib.hid (show hmK seed 4 key = hmF seed 4 key from hmK_of HSX.out)
          generalize hmF seed 4 key = h at hh16 HH ⊢
          go_wp2_with fail
          go_loopw [12, 13, 14] (fun f v d wr => ∃ (e : Nat) (fb : Bool) (z : Int), d = .int .i64 (e : Int) ∧ e ≤ 16 ∧ f = .bool fb ∧ v = .int .i64 z ∧ Hid (FI 16 s h key e fb z) ∧ Hid (Below w2.heap.size w2 wr)) (fun _ _ d _ => 16 - (intOf d).toNat)
          case atStart => exact ⟨0, false, 0, rfl, by omega, rfl, rfl, FI.start 16 s h key, Below.refl _ _⟩
          case round =>
            obtain ⟨e, fb, z, rfl, he, rfl, rfl, HIx, HBx⟩ := hrel
            by_cases hlt : e < 16
            · have hix := wrM h e hh16 hlt
              have hi16 : wr_ 16 (h + e) < 16 := wr_lt hh16 (by omega)
              obtain ⟨i, hi⟩ : ∃ i, wr_ 16 (h + e) = i := ⟨_, rfl⟩
              rw [hi] at hix hi16
              have HEI := Lib.hid hi
              obtain ⟨x0, x1, x2, x3⟩ := (HC2.out.below HBx.out).at_ i hi16
              have hgl : g < wr.heap.size := (HC2.out.below HBx.out).lt
              have HUV := Lib.hid (show FI 16 s h key e fb z from HIx.out)
              obtain ⟨u, hu⟩ : ∃ u, (atS s i).u = u := ⟨_, rfl⟩
              obtain ⟨dd, hd⟩ : ∃ dd, (atS s i).d = dd := ⟨_, rfl⟩
              obtain ⟨kk, hk⟩ : ∃ kk, (atS s i).k = kk := ⟨_, rfl⟩
              obtain ⟨vv, hv⟩ : ∃ vv, (atS s i).v = vv := ⟨_, rfl⟩
              rw [hu] at x0
              rw [hk] at x1
              rw [hv] at x2
              rw [hd] at x3
              have HU := Lib.hid hu
              have HD := Lib.hid hd
              have HK := Lib.hid hk
              have HV := Lib.hid hv
              clear hu hd hk hv hi
              cases u with
              | false =>
                have GA := Lib.hid (HIx.out.got HT2.out.we HH.out (by omega) (.inr (.inl (by rw [HEI.out]; exact HU.out))))
                have HBy := Lib.hid (HBx.out.alloc HBx.out.size (.cells #[.bool false, .string kk, .int .i64 vv, .int .i64 (dd : Int)] 52))
                go_wp2_with fail
                have HBR := Lib.hid (HB2.out.trans (HBy.out.mono HB2.out.size))
                have HTR := Lib.hid (HT2.out.below HBy.out)
                have HWE := Lib.hid HTR.out.we
                have HG := Lib.hid (Get_any bP bS seed 4 _ s key (wr.alloc (.cells #[.bool false, .string kk, .int .i64 vv, .int .i64 (dd : Int)] 52)) HTR.out (HT.out _ HBR.out) HSX.out)
                clear HC2 HIx HT2
                refine HG.out.mono ?_
                rintro e5 w5 ⟨z', r', rfl, ⟨m, rfl⟩, hg⟩
                obtain ⟨rfl, rfl⟩ := GotAt.same HWE.out GA.out hg
                have HB5 := Lib.hid (below_drewN HBR.out m)
                have HLV := Lib.hid (live_any ((wr.alloc (.cells #[.bool false, .string kk, .int .i64 vv, .int .i64 (dd : Int)] 52)).drewN m) (HT.out _ HB5.out))
                clear hg GA HG
                go_wp2_with (first | (go_at_call 11; refine HLV.out.mono ?_; rintro e6 w6 ⟨rfl, hb⟩; have HB6 := Lib.hid (HB5.out.trans (hb.mono HB5.out.size)); clear hb))
                go_ret
                exact ⟨by simp, HB6.out⟩
              | true =>
                by_cases g1 : dd < e
                · have e1 : decide ((dd : Int) < (e : Int)) = true := decide_eq_true (by omega)
                  have e2 : (dd : Int) < (e : Int) := by omega
                  have GA := Lib.hid (HIx.out.got HT2.out.we HH.out (by omega) (.inr (.inr (by rw [HEI.out, HD.out]; exact g1))))
                  have HBy := Lib.hid (HBx.out.alloc HBx.out.size (.cells #[.bool true, .string kk, .int .i64 vv, .int .i64 (dd : Int)] 52))
                  go_wp2_with fail
                  have HBR := Lib.hid (HB2.out.trans (HBy.out.mono HB2.out.size))
                  have HTR := Lib.hid (HT2.out.below HBy.out)
                  have HWE := Lib.hid HTR.out.we
                  have HG := Lib.hid (Get_any bP bS seed 4 _ s key (wr.alloc (.cells #[.bool true, .string kk, .int .i64 vv, .int .i64 (dd : Int)] 52)) HTR.out (HT.out _ HBR.out) HSX.out)
                  clear HC2 HIx HT2
                  refine HG.out.mono ?_
                  rintro e5 w5 ⟨z', r', rfl, ⟨m, rfl⟩, hg⟩
                  obtain ⟨rfl, rfl⟩ := GotAt.same HWE.out GA.out hg
                  have HB5 := Lib.hid (below_drewN HBR.out m)
                  have HLV := Lib.hid (live_any ((wr.alloc (.cells #[.bool true, .string kk, .int .i64 vv, .int .i64 (dd : Int)] 52)).drewN m) (HT.out _ HB5.out))
                  clear hg GA HG
                  go_wp2_with (first | (go_at_call 11; refine HLV.out.mono ?_; rintro e6 w6 ⟨rfl, hb⟩; have HB6 := Lib.hid (HB5.out.trans (hb.mono HB5.out.size)); clear hb))
                  go_ret
                  exact ⟨by simp, HB6.out⟩
                · have e1 : decide ((dd : Int) < (e : Int)) = false := decide_eq_false (by omega)
                  have e2 : ¬ (dd : Int) < (e : Int) := by omega
                  have hde : e ≤ dd := by omega
                  by_cases hke : kk = key
                  · have z1 : (kk.toList == key.toList) = true := by rw [hke]; exact beq_self_eq_true _
                    have HF := Lib.hid (HIx.out.hit (by rw [HEI.out]; exact HU.out) (by rw [HEI.out, HD.out]; exact hde) (by rw [HEI.out, HK.out]; exact hke))
                    clear hke
                    go_wp2_with fail
                    go_roundw
                    case rel => exact ⟨e + 1, true, _, by go_num, by omega, rfl, by rw [HEI.out, HV.out], HF, HBx.out.alloc HBx.out.size _⟩
                    case measure => simp [intOf]; omega
                  · have z1 := str_ne hke
                    have HF := Lib.hid (HIx.out.miss (by rw [HEI.out]; exact HU.out) (by rw [HEI.out, HD.out]; exact hde) (by rw [HEI.out, HK.out]; exact hke))
                    clear hke
                    go_wp2_with fail
                    go_roundw
                    case rel => exact ⟨e + 1, fb, z, by go_num, by omega, rfl, rfl, HF, HBx.out.alloc HBx.out.size _⟩
                    case measure => simp [intOf]; omega
            · obtain rfl : e = 16 := by omega
              have GA := Lib.hid (HIx.out.got HT2.out.we HH.out (by omega) (.inl rfl))
              have HBR := Lib.hid (HB2.out.trans (HBx.out.mono HB2.out.size))
              have HTR := Lib.hid (HT2.out.below HBx.out)
              have HWE := Lib.hid HTR.out.we
              have HG := Lib.hid (Get_any bP bS seed 4 _ s key wr HTR.out (HT.out _ HBR.out) HSX.out)
              clear HC2 HIx HT2
              go_wp2_with fail
              refine HG.out.mono ?_
              rintro e5 w5 ⟨z', r', rfl, ⟨m, rfl⟩, hg⟩
              obtain ⟨rfl, rfl⟩ := GotAt.same HWE.out GA.out hg
              have HB5 := Lib.hid (below_drewN HBR.out m)
              have HLV := Lib.hid (live_any (wr.drewN m) (HT.out _ HB5.out))
              clear hg GA HG
              go_wp2_with (first | (go_at_call 11; refine HLV.out.mono ?_; rintro e6 w6 ⟨rfl, hb⟩; have HB6 := Lib.hid (HB5.out.trans (hb.mono HB5.out.size)); clear hb))
              go_ret
              exact ⟨by simp, HB6.out⟩
theorem walk {W : World} (s : Int) (a : Option Addr) (len cap : Nat) (k : ByteArray) (hs : (Lit.int .u64 s).wf = true) (ho : IsOps W a len cap) (hx : k.size ≤ maxLen) (ht : TabW W) :
    Calls Tryd.prog 5 #[.int .u64 s, .slice a len cap, .string k] W fun e w' => e = .returned (.bool true) ∧ Below W.heap.size W w' := by
  obtain ⟨n, rfl, hn⟩ := wf_u hs
  obtain ⟨L, hL⟩ := ho
  exact walk1 n a len cap L k hn W hL hx ht

theorem own : ownKnob Tryd.prog.godebug = none := by kernel_rfl
theorem laidOut : laidOutB Tryd.prog = true := by kernel_rfl
theorem contract (H : Type) (enc : TypeId × Value → H) (W : World) (base : Nat) (args : Array Value) (ds gs : List (DataW H)) (before : List MemPlace)
    (hval : ∀ (j : Nat) t v, Tryd.f5.params[j]? = some t → args[j]? = some v → Value.okWide Tryd.prog W .any base t v)
    (hW : DataW.Whole enc Tryd.prog Tryd.f5.params.toList Rows.robinFindsSpec.vars false W args.toList ds gs before) (hL : laidMetH Tryd.prog Rows.robinFindsRow.laid W) :
    Calls Tryd.prog 5 args W fun e W' => ∃ v, e = .returned v ∧ Rows.robinFindsSpec.post enc Tryd.prog Tryd.f5 false true false false W args v W' := by
  have hW' := hW
  obtain ⟨p, q, hA0, hV, rfl, hfz, hnd⟩ := hW
  have hA : DataW.TrodAll enc Tryd.prog W 0 (fun _ => true) true Tryd.f5.params.toList args.toList ds p := hA0
  rw [Tryd.params5] at hA hval
  obtain ⟨v0, vs0, d0, ds0, p0, q0, hargs, rfl, rfl, h0, r0⟩ := trodAll_cons hA
  obtain ⟨v1, vs1, d1, ds1, p1, q1, rfl, rfl, rfl, h1, r1⟩ := trodAll_cons r0
  obtain ⟨v2, vs2, d2, ds2, p2, q2, rfl, rfl, rfl, h2, r2⟩ := trodAll_cons r1
  obtain ⟨rfl, rfl, rfl⟩ := trodAll_nil r2
  obtain rfl : args = #[v0, v1, v2] := by cases args; simp_all
  obtain ⟨rfl, rfl⟩ := trodVars_none hV
  obtain ⟨a0, rfl, rfl, rfl, w0⟩ := open_int Tryd.underlying22 (hval 0 22 v0 rfl rfl) h0
  have k1 := h1
  have lt1 : ∀ x ∈ p1, x.block < W.heap.size := by obtain ⟨m, hm⟩ := k1; exact DataW.trod_lt m _ _ _ hm
  obtain ⟨a1, len1, cap1, rfl, w1⟩ := open_ops (hval 1 23 v1 rfl rfl) h1
  obtain ⟨a2, rfl, rfl, rfl, w2⟩ := open_string Tryd.underlying9 (hval 2 9 v2 rfl rfl) h2
  clear hA0
  refine (walk a0 a1 len1 cap1 a2 w0 w1 w2 (tabW_of hL)).mono fun e W' ⟨he, bel⟩ => ?_
  subst he
  exact ⟨_, rfl, _, _, _, [], _, [], hW', trodAll_mk1 (shut_bool Tryd.underlying4 _), (trodAll_cons_mk (shut_int Tryd.underlying22 w0) (trodAll_cons_mk (Below.trod laidOut (by kernel_rfl) (of_decide_eq_true (by kernel_rfl)) k1 bel lt1) (trodAll_cons_mk (shut_string Tryd.underlying9 w2) trodAll_mk0))), rfl, bel.frame _, fun h => by cases h⟩

theorem laid_met (os : Os) : laidMet Tryd.prog Rows.robinFindsRow.laid ((laidWorld os).forCall (fun _ _ => 0) ⟨#[], #[.int .u64 0, .slice none 0 0, .string .empty], []⟩).memory :=
  laidMet_of_run' 8 (by kernel_rfl) (by kernel_rfl)
theorem reads (os : Os) {H : Type} (enc : TypeId × Value → H) : ∃ places, DataW.whole enc Tryd.prog ((laidWorld os).forCall (fun _ _ => 0) ⟨#[], #[.int .u64 0, .slice none 0 0, .string .empty], []⟩).memory Tryd.f5.params.toList Rows.robinFindsSpec.vars false (#[.int .u64 0, .slice none 0 0, .string .empty] : Array Value).toList 8 = some ([.lit (.int .u64 0), .nil, .lit (.string [])], [], places) :=
  ⟨[], by kernel_rfl⟩

set_option maxRecDepth 100000 in
theorem lifted (os : Os) (started : os.Started) (H : Type) (enc : TypeId × Value → H) (F : Stop.Interp) :
    ReturnsInHanded {} Tryd.checked os 5 .any ((OpenSpec.ofChange Rows.robinFindsSpec).preRow enc Tryd.prog Tryd.f5 Rows.robinFindsRow.domain false Rows.robinFindsRow.laid) (((OpenSpec.ofChange Rows.robinFindsSpec).at F).post enc Tryd.prog Tryd.f5 false true false false) := by
  obtain ⟨places, hx⟩ := reads os enc
  refine returnsInHanded_of_row (C := Tryd.checked) (s := OpenSpec.ofChange Rows.robinFindsSpec) own started (by kernel_rfl) Tryd.func5
    (witness_row_at (enc := enc) (C := Tryd.checked) false (laidWorld os) #[.int .u64 0, .slice none 0 0, .string .empty] rfl (by kernel_rfl) (by kernel_rfl) (by kernel_rfl)
      (OpenSpec.preRow_of_cond 8 hx (by kernel_rfl) (fun k hk => by cases hk) (by kernel_rfl) (laid_met os))) ?_
  intro W base args ds gs before hval hW _ _ _ hL _ _
  exact contract H enc W base args ds gs before hval hW hL

theorem said : Rows.RobinFindsSaid :=
  OpenClaim.holds_of_cond 5 Tryd.f5 rfl rfl rfl rfl rfl rfl rfl ⟨rfl, rfl, rfl, rfl, rfl⟩ rfl rfl rfl rfl rfl (by kernel_rfl) Tryd.func5 (by kernel_rfl)
    (of_decide_eq_true (by kernel_rfl)) (by unfold Func.isWrapper; first | (rw [if_pos (by decide +kernel)]; kernel_rfl) | (rw [if_neg (by decide +kernel)]; exact ⟨rfl, rfl⟩))
    (fun os started H enc _ F => by rw [OpenClaim.pre_eq_preRow]; exact lifted os started H enc F)
theorem plain (f : FuncId) (fn : Func) (hf : Tryd.pinned.checked.prog.funcNamed Rows.robinFindsRow.func = some f) (hfn : Tryd.pinned.checked.prog.funcs[f]? = some fn) :
    false = Tryd.pinned.checked.prog.looks [] ∧ ∀ (j : Nat) t, fn.params[j]? = some t → Tryd.pinned.checked.prog.wantsStandIn t = false := by
  obtain rfl : f = 5 := Option.some.inj ((show Tryd.prog.funcNamed Rows.robinFindsRow.func = some 5 by kernel_rfl).symm.trans hf) |>.symm
  obtain rfl : fn = Tryd.f5 := (Option.some.inj (Tryd.func5.symm.trans hfn)).symm
  refine ⟨by kernel_rfl, fun j t ht => ?_⟩
  rw [Tryd.params5] at ht
  have hm := Array.mem_of_getElem? ht
  simp only [List.mem_toArray, List.mem_cons, List.not_mem_nil, or_false] at hm
  rcases hm with rfl | rfl | rfl
  · exact (show Tryd.prog.wantsStandIn 22 = false by kernel_rfl)
  · exact (show Tryd.prog.wantsStandIn 23 = false by kernel_rfl)
  · exact (show Tryd.prog.wantsStandIn 9 = false by kernel_rfl)
theorem card : Rows.RobinFindsCardSaid :=
  Claim7.holds_tied_plain_at .later [] _ _ _ _ said (fun _ h => by cases h) (by kernel_rfl) (fun _ h => by cases h) robinFinds_row_tie rfl ⟨rfl, rfl⟩ (by kernel_rfl) rfl plain (by kernel_rfl)
end Go.Proofs.YtgcdminjpdbchaaDoor.robinFinds
namespace Go.Proofs.YtgcdminjpdbchaaDoor
theorem robinFinds_proved : Rows.RobinFindsCardSaid := robinFinds.card
end Go.Proofs.YtgcdminjpdbchaaDoor

