/- For all lists of calls the law RecentWalks returns true: going from the oldest id to the newer one, all ids are met in their order, once each (of at most 100 calls, else only the document's examples are asked). -/
import Derived.Test.YtjkejlnelkckgaaRcOps
import Derived.Test.YtjkejlnelkckgaaRows
namespace Go.Proofs.Ytjkejlnelkckgaa.recentWalks
open Go.ChangeShapes Go.WideShapes Go.ChangeAt Go.RowKit
set_option linter.unusedVariables false

set_option maxRecDepth 100000 in
set_option maxHeartbeats 4000000 in
theorem main (A : Option Addr) (len cap : Nat) {W : World} (hops : IsOps W A len cap) (h100 : len ≤ 100) :
    Calls Try.prog 4 #[.slice A len cap] W fun e w' => e = .returned (.bool true) ∧ Below W.heap.size W w' := by
  have hlc := hops.1
  have HOPS := Lib.hid hops
  clear hops
  go_enter Try.func4, Try.ntmps4
  go_wp2_with fail
  refine (New_T W).mono ?_
  rintro e w1 ⟨bP, bM, rfl, hW, hB, h1, h2⟩
  have HS0 := Lib.hid hW
  have HB0 := Lib.hid hB
  have HBK := Lib.hid (fun w' w'' (h : Below W.heap.size W w') (k : Kept (two bP bM) w' w'') => h.trans (k.below (B := W.heap.size) h.size (fun i hi hf => by rcases hf with e | e <;> omega)))
  clear hW hB h1 h2
  go_wp2_with fail
  go_loopw [4] (fun i wr => ∃ (j : Nat) (l : List Nat), j ≤ len ∧ i = .int .i64 (j : Int) ∧ RC wr bP bM l ∧ l.length ≤ j ∧ Below W.heap.size W wr) (fun i _ => len - (intOf i).toNat)
  case atStart => exact ⟨0, [], Nat.zero_le _, rfl, HS0.out, Nat.le_refl _, HB0.out⟩
  case round =>
    clear HS0 HB0
    obtain ⟨j, l, hj, rfl, hI, hn, hL⟩ := hrel
    have HI := Lib.hid hI
    have HL := Lib.hid hL
    have HN := Lib.hid hn
    clear hI hL hn
    by_cases hlt : j < len
    · obtain ⟨b, off, rfl, hb, hall⟩ := HOPS.out.2.2 (by omega)
      obtain ⟨d, k, ho⟩ := hall j hlt
      clear hall
      have c0 := (HL.out.cell (p := ⟨b, off + j * 2, none⟩) hb).trans ho.c0
      have c1 := (HL.out.cell (p := ⟨b, off + j * 2 + 1, none⟩) hb).trans ho.c1
      have hbr : b < wr.heap.size := Nat.lt_of_lt_of_le hb HL.out.size
      have HKK := Lib.hid ho.w1
      clear ho
      by_cases d1 : d = 1
      · subst d1
        by_cases k0 : 0 ≤ k
        · obtain ⟨y, rfl⟩ := Int.eq_ofNat_of_zero_le k0
          have HC := Lib.hid (Drop_any bP bM l wr HI.out y (by have := HKK.out; unfold I64 at this; omega) (by have := HN.out; omega) (decide (y ∈ l)) (by simp))
          have HTT := Lib.hid (show (flt l y).length ≤ j + 1 by have := flt_le l y; have := HN.out; omega)
          generalize decide (y ∈ l) = r at *
          clear k0
          go_wp2_with fail
          refine HC.out.mono ?_
          rintro e w2 ⟨rfl, hW2, hK2⟩
          have HW2 := Lib.hid hW2
          have HL2 := Lib.hid (HBK.out _ _ HL.out hK2)
          clear hW2 hK2 HC
          go_wp2
          go_roundw
          case rel => exact ⟨j + 1, _, by omega, by go_num, HW2.out, HTT.out, HL2.out⟩
          case measure => simp [intOf]; omega
        · have HC := Lib.hid (Drop_neg bP bM l wr HI.out k HKK.out (fun x hx e => by omega))
          have HTT := Lib.hid (show l.length ≤ j + 1 by have := HN.out; omega)
          clear k0
          go_wp2_with fail
          refine HC.out.mono ?_
          rintro e w2 ⟨rfl, hb2⟩
          have HW2 := Lib.hid (HI.out.below hb2)
          have HL2 := Lib.hid (HL.out.trans (hb2.mono HL.out.size))
          clear hb2 HC
          go_wp2
          go_roundw
          case rel => exact ⟨j + 1, _, by omega, by go_num, HW2.out, HTT.out, HL2.out⟩
          case measure => simp [intOf]; omega
      · have t1 : (d == 1) = false := by simp [d1]
        clear d1
        by_cases k0 : 0 ≤ k
        · obtain ⟨y, rfl⟩ := Int.eq_ofNat_of_zero_le k0
          have HC := Lib.hid (Touch_T bP bM l wr HI.out y (by have := HKK.out; unfold I64 at this; omega) (by have := HN.out; omega))
          have HTT := Lib.hid (show (flt l y ++ [y]).length ≤ j + 1 by have := flt_le l y; have := HN.out; simp; omega)
          clear k0
          go_wp2_with fail
          refine HC.out.mono ?_
          rintro e w2 ⟨rfl, hW2, hK2⟩
          have HW2 := Lib.hid hW2
          have HL2 := Lib.hid (HBK.out _ _ HL.out hK2)
          clear hW2 hK2 HC
          go_wp2
          go_roundw
          case rel => exact ⟨j + 1, _, by omega, by go_num, HW2.out, HTT.out, HL2.out⟩
          case measure => simp [intOf]; omega
        · have HC := Lib.hid (Touch_no bP bM l wr HI.out k (by omega))
          have HTT := Lib.hid (show l.length ≤ j + 1 by have := HN.out; omega)
          clear k0
          go_wp2_with fail
          refine HC.out.mono ?_
          rintro e w2 ⟨rfl, rfl⟩
          clear HC
          go_wp2
          go_roundw
          case rel => exact ⟨j + 1, _, by omega, by go_num, HI.out, HTT.out, HL.out⟩
          case measure => simp [intOf]; omega
    · have hl100 : l.length ≤ 100 := by have := HN.out; omega
      have HO := Lib.hid (Oldest_T bP bM l wr HI.out)
      have HLT := Lib.hid HI.out.lt
      have HND := Lib.hid HI.out.nd
      go_wp2_with fail
      refine HO.out.mono ?_
      rintro e w2 ⟨rfl, hb⟩
      have HW1 := Lib.hid (HI.out.below hb)
      have HB1 := Lib.hid (HL.out.trans (hb.mono HL.out.size))
      have HLT2 := Lib.hid (HI.out.below hb).lt
      have e0 : l.head? = l[0]? := by cases l <;> rfl
      rw [e0]
      obtain ⟨q0, hq0⟩ : ∃ q0, ((l[0]?).map fun (x : Nat) => (x : Int)).getD 0 = q0 := ⟨_, rfl⟩
      obtain ⟨r0, hr0⟩ : ∃ r0, (l[0]?).isSome = r0 := ⟨_, rfl⟩
      rw [hq0, hr0]
      have HQ0 := Lib.hid hq0
      have HR0 := Lib.hid hr0
      have HWS := Lib.hid HB1.out.size
      clear hb HO e0 hq0 hr0 HI HL HN
      obtain ⟨B2, hB2⟩ : ∃ B2, w2.heap.size = B2 := ⟨_, rfl⟩
      rw [hB2] at HLT2 HWS
      have HE2 := Lib.hid hB2
      clear hB2
      go_wp2_with fail
      go_loopw [5, 6, 7] (fun v x r wx => ∃ j : Nat, j ≤ l.length ∧ x = .int .i64 (((l[j]?).map fun (x : Nat) => (x : Int)).getD 0) ∧ r = .bool (l[j]?).isSome ∧ Own1 B2 3 wx v (idsV (l.take j)) ∧ RC wx bP bM l ∧ Below W.heap.size W wx ∧ B2 ≤ wx.heap.size) (fun v _ _ _ => l.length - (match v with | .slice _ n _ => n | _ => 0))
      case atStart => exact ⟨0, Nat.zero_le _, by rw [HQ0.out], by rw [HR0.out], Own1.nil _ _ _, HW1.out, HB1.out, by rw [HE2.out]; exact Nat.le_refl _⟩
      case round =>
        obtain ⟨j, hj, rfl, rfl, hO, hI, hB, hS⟩ := hrel
        have HO := Lib.hid hO
        have HI := Lib.hid hI
        have HB := Lib.hid hB
        have HSZ := Lib.hid hS
        by_cases hlt : j < l.length
        · obtain ⟨x, hx⟩ : ∃ x, l[j]? = some x := ⟨_, List.getElem?_eq_getElem hlt⟩
          rw [hx, Option.map_some, Option.getD_some, Option.isSome_some]
          have HX := Lib.hid hx
          have hlen : (idsV (l.take j)).length = j := by rw [idsV_len, List.length_take]; omega
          have hlen2 : (l.take j).length = j := by rw [List.length_take]; omega
          have HLEN := Lib.hid hlen
          obtain ⟨A, cap, rfl, hIA⟩ := hO.ints
          rw [hlen2] at HO ⊢
          have HIA := Lib.hid hIA
          have hcap : j ≤ cap := by have := hIA.1; rw [List.length_map, hlen2] at this; exact this
          clear hO hI hB hS hx hlen HW1 HB1 hIA hlen2
          obtain ⟨n, hn⟩ : ∃ n, l.length = n := ⟨_, rfl⟩
          have HLN := Lib.hid hn
          rw [hn] at hlt hj hl100
          clear hn
          go_wp2_with fail
          go_loop [8] (fun i => ∃ t : Nat, t ≤ j ∧ i = .int .i64 (t : Int)) (fun i => j - (intOf i).toNat)
          case atStart => exact ⟨0, Nat.zero_le _, rfl⟩
          case round =>
            obtain ⟨t, ht, rfl⟩ := hrel
            by_cases htl : t < j
            · obtain ⟨y, hy⟩ : ∃ y, l[t]? = some y := ⟨_, List.getElem?_eq_getElem (by rw [HLN.out]; omega)⟩
              obtain ⟨g, rfl, hc⟩ := HIA.out.2 (by rw [List.length_map, List.length_take, HLN.out]; omega)
              have d0 := hc t (y : Int) (by rw [List.getElem?_map, List.getElem?_take, if_pos htl, hy]; rfl)
              have hne : y ≠ x := fun e => by
                subst e
                have := (List.getElem?_inj (List.getElem?_eq_some_iff.1 hy).1 HND.out).1 (hy.trans HX.out.symm)
                omega
              have t1 : ((y : Int) == (x : Int)) = false := by simp; omega
              clear hc hy hne
              go_wp2
              go_round
              case rel => exact ⟨t + 1, by omega, by go_num⟩
              case measure => simp [intOf]; omega
            · go_wp2_with (at_builtin; refine wpList_append_own1 wr wr.heap.size rfl rfl _ _ 26 rfl 3 (.int .i64 0) 8 Try.underlying26 Try.infoInt rfl (by decide) _ (.int .i64 (x : Int)) (idsV (l.take j)) j HLEN.out rfl rfl rfl HO.out HSZ.out (by omega) ?_)
              intro g cap1 w3 ho hk hg hgl
              have hown : ∀ b, (Value.slice A j cap).ownBlock = some b → B2 ≤ b := fun b hb => HO.out.ge hb
              have hlt2 := HLT2.out
              have HI2 := Lib.hid (HI.out.kept hk (fun e => by have := hown _ e; omega) (fun e => by have := hown _ e; omega))
              have HB2 := Lib.hid (HB.out.trans (hk.below HB.out.size (fun b hb e => by have := hown _ e; have := HWS.out; omega)))
              have HO2 := Lib.hid (show Own1 B2 3 w3 (.slice (some ⟨g, 0, none⟩) (j + 1) cap1) (idsV (l.take (j + 1))) by
                have e : idsV (l.take (j + 1)) = idsV (l.take j) ++ [.int .i64 (x : Int)] := by
                  rw [List.take_add_one, HX.out]; simp [idsV]
                rw [e]; exact ho)
              have HS2 := Lib.hid (Nat.le_trans HSZ.out hk.size)
              clear ho hk hg hgl hown hlt2
              go_wp2_with fail
              refine (Newer_at bP bM l w3 HI2.out j x HX.out).mono ?_
              rintro e w4 ⟨rfl, hb⟩
              have HI3 := Lib.hid (HI2.out.below hb)
              have HB3 := Lib.hid (HB2.out.trans (hb.mono HB2.out.size))
              have HO3 := Lib.hid (HO2.out.kept (Kept.of_below (F := fun _ => False) hb) (fun _ _ => id))
              have HS3 := Lib.hid (Nat.le_trans HS2.out hb.size)
              clear hb
              go_wp2
              go_roundw
              case rel => exact ⟨j + 1, by rw [HLN.out]; omega, rfl, rfl, HO3.out, HI3.out, HB3.out, HS3.out⟩
              case measure => simp; have := HLN.out; omega
        · have hjl : j = l.length := by omega
          have hz : l[j]? = none := List.getElem?_eq_none (by omega)
          rw [hz]
          rw [hjl, List.take_length] at hO
          obtain ⟨A, cap, rfl, hIA⟩ := hO.ints
          have HIA := Lib.hid hIA
          have HLEN := Lib.hid (Len_T bP bM l)
          have HORD := Lib.hid (Order_T bP bM l wr HI.out (by omega))
          obtain ⟨n, hn⟩ : ∃ n, l.length = n := ⟨_, rfl⟩
          have HLN := Lib.hid hn
          rw [hn] at hl100 HLEN ⊢
          clear hO hI hB hS hz hjl hIA hj hlt hn HO
          go_wp2_with fail
          refine HORD.out.mono ?_
          rintro e w5 ⟨v5, rfl, hO5, hb5⟩
          obtain ⟨A5, c5, e5, hI5⟩ := hO5.ints
          rw [HLN.out] at e5
          subst e5
          have HI6 := Lib.hid (HI.out.below hb5)
          have HB6 := Lib.hid (HB.out.trans (hb5.mono HB.out.size))
          have HE := Lib.hid (Ints_yes A A5 cap c5 (cI l) w5 (HIA.out.below hb5) hI5 (by rw [cI_len, HLN.out]; omega))
          rw [cI_len, HLN.out] at HE
          clear hO5 hb5 hI5 HORD
          go_wp2_with fail
          refine HE.out.mono ?_
          rintro e w6 ⟨rfl, m6, rfl⟩
          have hbb : Below w5.heap.size w5 (w5.drewN m6) := ⟨rfl, rfl, rfl, Nat.le_refl _, fun _ _ => rfl⟩
          have HI7 := Lib.hid (HI6.out.below hbb)
          have HB7 := Lib.hid (HB6.out.trans (hbb.mono HB6.out.size))
          generalize w5.drewN m6 = w7 at *
          clear hbb HE
          go_wp2_with fail
          refine (HLEN.out w7 HI7.out (by omega)).mono ?_
          rintro e w8 ⟨rfl, rfl⟩
          go_wp2_with fail
          refine (live_any _).mono ?_
          rintro e w9 ⟨rfl, hb⟩
          have HB9 := Lib.hid (HB7.out.trans (hb.mono HB7.out.size))
          clear hb
          go_wp2
          go_ret
          exact ⟨rfl, HB9.out⟩
set_option maxRecDepth 100000 in
theorem walk (A : Option Addr) (len cap : Nat) {W : World} (hops : IsOps W A len cap) :
    Calls Try.prog 4 #[.slice A len cap] W fun e w' => e = .returned (.bool true) ∧ Below W.heap.size W w' := by
  by_cases hh : len ≤ 100
  · exact main A len cap hops hh
  · have hlm : len ≤ 9223372036854775807 := by have := hops.2.1; have := hops.1; unfold maxLen at *; omega
    clear hops
    go_enter Try.func4, Try.ntmps4
    go_wp2_with fail
    refine (New_T W).mono ?_
    rintro e w1 ⟨bP, bM, rfl, hW, hB, h1, h2⟩
    have HB := Lib.hid hB
    clear hW hB h1 h2
    go_wp2_with fail
    refine (live_any _).mono ?_
    rintro e w6 ⟨rfl, hb⟩
    have HB8 := Lib.hid (HB.out.trans (hb.mono HB.out.size))
    clear hb
    go_wp2
    go_ret
    exact ⟨rfl, HB8.out⟩

theorem own : ownKnob Try.prog.godebug = none := by kernel_rfl
theorem laidOut : laidOutB Try.prog = true := by kernel_rfl
theorem contract (H : Type) (enc : TypeId × Value → H) (W : World) (base : Nat) (args : Array Value) (ds gs : List (DataW H)) (before : List MemPlace)
    (hval : ∀ (j : Nat) t v, Try.f4.params[j]? = some t → args[j]? = some v → Value.okWide Try.prog W .any base t v)
    (hW : DataW.Whole enc Try.prog Try.f4.params.toList Rows.recentWalksSpec.vars false W args.toList ds gs before) :
    Calls Try.prog 4 args W fun e W' => ∃ v, e = .returned v ∧ Rows.recentWalksSpec.post enc Try.prog Try.f4 false true false false W args v W' := by
  have hW' := hW
  obtain ⟨p, q, hA0, hV, rfl, hfz, hnd⟩ := hW
  have hA : DataW.TrodAll enc Try.prog W 0 (fun _ => true) true Try.f4.params.toList args.toList ds p := hA0
  rw [Try.params4] at hA hval
  obtain ⟨v0, vs0, d0, ds0, p0, q0, hargs, rfl, rfl, h0, r0⟩ := trodAll_cons hA
  obtain ⟨rfl, rfl, rfl⟩ := trodAll_nil r0
  obtain rfl : args = #[v0] := by cases args; simp_all
  obtain ⟨rfl, rfl⟩ := trodVars_none hV
  have k0 := h0
  have lt0 : ∀ x ∈ p0, x.block < W.heap.size := by obtain ⟨m, hm⟩ := k0; exact DataW.trod_lt m _ _ _ hm
  obtain ⟨a0, len0, cap0, rfl, w0⟩ := open_ops (hval 0 22 v0 rfl rfl) h0
  clear hA0
  refine (walk a0 len0 cap0 w0).mono fun e W' ⟨he, bel⟩ => ?_
  subst he
  exact ⟨_, rfl, _, _, _, [], _, [], hW', trodAll_mk1 (shut_bool Try.underlying4 _), (trodAll_cons_mk (Below.trod laidOut (by kernel_rfl) (of_decide_eq_true (by kernel_rfl)) k0 bel lt0) trodAll_mk0), rfl, bel.frame _, fun h => by cases h⟩

set_option maxRecDepth 100000 in
theorem lifted (os : Os) (started : os.Started) (H : Type) (enc : TypeId × Value → H) :
    ReturnsInHanded {} Try.checked os 4 .any (Rows.recentWalksSpec.pre6 enc Try.prog Try.f4 Rows.recentWalksRow.domain false) (Rows.recentWalksSpec.post enc Try.prog Try.f4 false true false false) := by
  refine returnsInHanded_of_change (C := Try.checked) own started (by kernel_rfl) Try.func4
    (ChangeSpec.witness6 (enc := enc) (C := Try.checked) false ⟨#[], #[.slice none 0 0], []⟩ 8 (by kernel_rfl) (by kernel_rfl) (by kernel_rfl) (by kernel_rfl)) ?_
  intro W base args ds gs before hval hW _ _
  exact contract H enc W base args ds gs before hval hW

theorem over : Rows.recentWalksRow.holds Try.pinned (OpenSpec.ofChange Rows.recentWalksSpec) :=
  OpenClaim.holds_of_wide 4 Try.f4 rfl rfl rfl rfl rfl rfl rfl ⟨rfl, rfl, rfl, rfl, rfl⟩ rfl rfl rfl rfl rfl (by kernel_rfl) Try.func4 (by kernel_rfl)
    (of_decide_eq_true (by kernel_rfl)) (by unfold Func.isWrapper; first | (rw [if_pos (by decide +kernel)]; kernel_rfl) | (rw [if_neg (by decide +kernel)]; exact ⟨rfl, rfl⟩))
    (fun os started H enc _ => lifted os started H enc)
end Go.Proofs.Ytjkejlnelkckgaa.recentWalks
namespace Go.Proofs.Ytjkejlnelkckgaa
theorem recentWalks_proved : Rows.RecentWalksSaid := recentWalks.over
end Go.Proofs.Ytjkejlnelkckgaa

