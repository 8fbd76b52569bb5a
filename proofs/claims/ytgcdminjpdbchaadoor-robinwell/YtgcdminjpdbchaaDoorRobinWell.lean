/- For every seed, number of bits and all calls the law RobinWell returns true: whatever is called of a new table: behind each call it is well: each key stands where its home and its Dist say, once, and no slot that is used has one ahead of it that is not, or is nearer to home by more than one. -/
import Derived.Test.YtgcdminjpdbchaaDoorRbM6
import Derived.Test.YtgcdminjpdbchaaDoorRbW
import Derived.Test.YtgcdminjpdbchaaDoorRows
namespace Go.Proofs.YtgcdminjpdbchaaDoor.robinWell
open Go.ChangeShapes Go.WideShapes Go.ChangeAt Go.RowKit
set_option linter.unusedVariables false

theorem op_cells {w : World} {A : Option Addr} {len cap : Nat} {L : Nat → OpR} (h : OpsAt w A len cap L) {j : Nat} (hj : j < len) : ∃ b off, A = some ⟨b, off, none⟩ ∧ b < w.heap.size ∧ OpAt w b (off + j * 3) (L j) := by
  obtain ⟨b, off, e, hb, hall⟩ := h.2.2 (by omega)
  exact ⟨b, off, e, hb, hall j hj⟩
set_option maxRecDepth 100000 in
set_option maxHeartbeats 0 in
theorem walk1 (seed : Nat) (bits : Int) (A : Option Addr) (len cap : Nat) (L : Nat → OpR) (hs : U seed) (W1 : World) (ho : OpsAt W1 A len cap L) (ht : TabW W1) :
    Calls Tryd.prog 4 #[.int .u64 (seed : Int), .int .i64 bits, .slice A len cap] W1 fun e w' => e = .returned (.bool true) ∧ Below W1.heap.size W1 w' := by
  have HO := Lib.hid (fun w' (h : Below W1.heap.size W1 w') => ho.below h)
  have HT := Lib.hid ht
  have HSD := Lib.hid hs
  obtain ⟨q1, q2, q3⟩ := ho
  unfold maxLen at q2
  clear ht hs q3
  by_cases hbi : 1 ≤ bits ∧ bits ≤ 8
  · obtain ⟨b, rfl⟩ : ∃ b : Nat, bits = (b : Int) := ⟨bits.toNat, by omega⟩
    have hb1 : 1 ≤ b := by omega
    have hb8 : b ≤ 8 := by omega
    clear hbi
    go_enter Tryd.func4, Tryd.ntmps4
    go_wp2_with fail
    refine (New_T seed b W1 HSD.out hb1 hb8).mono ?_
    rintro e w1 ⟨bP, bS, rfl, hT, hB, h1, h2⟩
    have HTT := Lib.hid hT
    have HB := Lib.hid hB
    have HBS := Lib.hid h2
    clear hT hB h1 h2
    go_wp2_with fail
    refine (rNew_yes b w1 hb1 hb8).mono ?_
    rintro e w2 ⟨rfl, hm, hb⟩
    have HD := Lib.hid (show DS w1.heap.size bP bS seed b w1.heap.size (fun _ => none) (.slice none 0 0) [] w2 from ⟨HTT.out.below hb, hm, LM.new, hb.size⟩)
    have HBA := Lib.hid (show Bas W1 bS w1.heap.size (.slice none 0 0) w2 from ⟨HT.out, HB.out.trans (hb.mono HB.out.size), HBS.out, HB.out.size, fun b hb => by simp [Value.ownBlock] at hb⟩)
    clear hm hb HTT HB HBS HT
    generalize w1.heap.size = bM at HD HBA ⊢
    obtain ⟨B0, hB0⟩ : ∃ B0, bM = B0 := ⟨_, rfl⟩
    have HD := Lib.hid (show DS B0 bP bS seed b bM (fun _ => none) (.slice none 0 0) [] w2 from hB0 ▸ HD.out)
    clear hB0
    have HF := Lib.hid (few_any A len cap L 60 w2 (HO.out w2 HBA.out.be))
    go_wp2_with fail
    refine HF.out.mono ?_
    rintro e w3 ⟨r, rfl, rfl, hr⟩
    cases r with
    | false =>
      clear hr HF
      go_wp2_with fail
      refine (live_any w2 HBA.out.tab).mono ?_
      rintro e w3 ⟨rfl, hb⟩
      have HZ := Lib.hid (HBA.out.step hb)
      clear hb
      go_wp2
      go_ret
      exact ⟨rfl, HZ.out.be⟩
    | true =>
      obtain ⟨hl, hks⟩ := hr rfl
      have hlen : len ≤ 60 := by omega
      clear hr hks hl HF
      go_wp2_with fail
      go_loopw [11] (fun i wr => ∃ (j : Nat) (M : ByteArray → Option Int) (v : Value) (l : List Pr), j ≤ len ∧ i = .int .i64 (j : Int) ∧ Hid (DS B0 bP bS seed b bM M v l wr) ∧ Hid (Bas W1 bS bM v wr)) (fun i _ => len - (intOf i).toNat)
      case atStart => exact ⟨0, _, _, _, Nat.zero_le _, rfl, HD, HBA⟩
      case round =>
        obtain ⟨j, M, v, l, hj, rfl, HDw, HBw⟩ := hrel
        clear HD HBA
        by_cases hlt : j < len
        · obtain ⟨ob, off, rfl, hob, hop⟩ := op_cells (HO.out wr HBw.out.be) hlt
          have c0 := hop.c0
          have c1 := hop.c1
          have c2 := hop.c2
          have HC := Lib.hid (does_any B0 bP bS seed b bM M v l (L j).d (L j).v (L j).k wr hb8 W1 HDw.out HBw.out hop.w1 hop.w2)
          clear hop HDw
          generalize (L j).d = od at c0 HC
          generalize (L j).k = ok at c1 HC
          generalize (L j).v = ov at c2 HC
          go_wp2_with fail
          refine HC.out.mono ?_
          rintro e w3 ⟨rfl, M', v', l', hz⟩
          have HZ := Lib.hid hz.d
          have HB3 := Lib.hid (HBw.out.next hz)
          clear hz HC HBw c0 c1 c2
          obtain ⟨s, hTb, hM, hc⟩ := HZ.out.t
          have HTB := Lib.hid hTb
          have HM := Lib.hid hM
          have HCC := Lib.hid hc
          have HS := Lib.hid (Slots_any bP bS seed b _ s w3 hTb)
          clear hTb hM hc
          go_wp2_with fail
          refine HS.out.mono ?_
          rintro e w4 ⟨sv, rfl, hv, hb4⟩
          rw [HTB.out.we.len] at hv
          obtain ⟨g, gc, rfl, hgc, hg1, hg2, hcs⟩ := slot_cells hv HTB.out.we.len (by have := HTB.out.we.n2; omega)
          have hgm : gc ≤ maxLen := by
            rcases hv.2 with ⟨e, _⟩ | ⟨g', cap', cur, e, _, _, _, h6, _⟩
            · cases e
            · injection e with e1 e2 e3
              rw [e3]; exact h6
          have HWI := Lib.hid (show WI B0 bM v' l' M' seed b (2 ^ b) s g w4 from ⟨HZ.out.m.below hb4, HZ.out.lm, ⟨hg2, hcs⟩, HTB.out.we, HM.out, HCC.out, fun i hi hu => (HTB.out.ks i hi hu).2⟩)
          have HD4 := Lib.hid (HZ.out.below hb4)
          have HB4 := Lib.hid (HB3.out.step hb4)
          have HWY := Lib.hid (Well_yes B0 bM v' l' M' seed b (2 ^ b) s g gc w4 HWI.out HSD.out hb1 hb8 rfl hgc hgm)
          clear hv hcs hb4 HS HZ HB3 HTB HM HCC HWI hgm hgc hg1 hg2
          generalize 2 ^ b = n2 at HWY ⊢
          go_wp2_with fail
          refine HWY.out.mono ?_
          rintro e w5 ⟨rfl, hb5⟩
          have HD5 := Lib.hid (HD4.out.below hb5)
          have HB5 := Lib.hid (HB4.out.step hb5)
          clear hb5 HD4 HB4 HWY
          go_wp2
          go_roundw
          case rel => exact ⟨j + 1, M', v', l', by omega, by go_num, HD5, HB5⟩
          case measure => simp [intOf]; omega
        · go_wp2_with fail
          refine (live_any wr HBw.out.tab).mono ?_
          rintro e w3 ⟨rfl, hb⟩
          have HZ := Lib.hid (HBw.out.step hb)
          clear hb
          go_wp2
          go_ret
          exact ⟨rfl, HZ.out.be⟩
  · go_enter Tryd.func4, Tryd.ntmps4
    go_wp2_with fail
    refine (New_no seed bits W1 hbi).mono ?_
    rintro e w1 ⟨rfl, rfl⟩
    go_wp2_with fail
    refine (rNew_no bits W1 hbi).mono ?_
    rintro e w1 ⟨rfl, rfl⟩
    have HF := Lib.hid (few_any A len cap L 60 W1 (HO.out W1 (Below.refl _ _)))
    go_wp2_with fail
    refine HF.out.mono ?_
    rintro e w3 ⟨r, rfl, rfl, hr⟩
    clear hr HF
    cases r <;>
    · go_wp2_with fail
      refine (live_any W1 HT.out).mono ?_
      rintro e w2 ⟨rfl, hb⟩
      go_wp2
      go_ret
      exact ⟨rfl, hb⟩
theorem walk {W : World} (s b : Int) (a : Option Addr) (len cap : Nat) (hs : (Lit.int .u64 s).wf = true) (hb : (Lit.int .i64 b).wf = true) (ho : IsOps W a len cap) (ht : TabW W) :
    Calls Tryd.prog 4 #[.int .u64 s, .int .i64 b, .slice a len cap] W fun e w' => e = .returned (.bool true) ∧ Below W.heap.size W w' := by
  obtain ⟨n, rfl, hn⟩ := wf_u hs
  obtain ⟨L, hL⟩ := ho
  exact walk1 n b a len cap L hn W hL ht

theorem own : ownKnob Tryd.prog.godebug = none := by kernel_rfl
theorem laidOut : laidOutB Tryd.prog = true := by kernel_rfl
theorem contract (H : Type) (enc : TypeId × Value → H) (W : World) (base : Nat) (args : Array Value) (ds gs : List (DataW H)) (before : List MemPlace)
    (hval : ∀ (j : Nat) t v, Tryd.f4.params[j]? = some t → args[j]? = some v → Value.okWide Tryd.prog W .any base t v)
    (hW : DataW.Whole enc Tryd.prog Tryd.f4.params.toList Rows.robinWellSpec.vars false W args.toList ds gs before) (hL : laidMetH Tryd.prog Rows.robinWellRow.laid W) :
    Calls Tryd.prog 4 args W fun e W' => ∃ v, e = .returned v ∧ Rows.robinWellSpec.post enc Tryd.prog Tryd.f4 false true false false W args v W' := by
  have hW' := hW
  obtain ⟨p, q, hA0, hV, rfl, hfz, hnd⟩ := hW
  have hA : DataW.TrodAll enc Tryd.prog W 0 (fun _ => true) true Tryd.f4.params.toList args.toList ds p := hA0
  rw [Tryd.params4] at hA hval
  obtain ⟨v0, vs0, d0, ds0, p0, q0, hargs, rfl, rfl, h0, r0⟩ := trodAll_cons hA
  obtain ⟨v1, vs1, d1, ds1, p1, q1, rfl, rfl, rfl, h1, r1⟩ := trodAll_cons r0
  obtain ⟨v2, vs2, d2, ds2, p2, q2, rfl, rfl, rfl, h2, r2⟩ := trodAll_cons r1
  obtain ⟨rfl, rfl, rfl⟩ := trodAll_nil r2
  obtain rfl : args = #[v0, v1, v2] := by cases args; simp_all
  obtain ⟨rfl, rfl⟩ := trodVars_none hV
  obtain ⟨a0, rfl, rfl, rfl, w0⟩ := open_int Tryd.underlying22 (hval 0 22 v0 rfl rfl) h0
  obtain ⟨a1, rfl, rfl, rfl, w1⟩ := open_int Tryd.underlying3 (hval 1 3 v1 rfl rfl) h1
  have k2 := h2
  have lt2 : ∀ x ∈ p2, x.block < W.heap.size := by obtain ⟨m, hm⟩ := k2; exact DataW.trod_lt m _ _ _ hm
  obtain ⟨a2, len2, cap2, rfl, w2⟩ := open_ops (hval 2 23 v2 rfl rfl) h2
  clear hA0
  refine (walk a0 a1 a2 len2 cap2 w0 w1 w2 (tabW_of hL)).mono fun e W' ⟨he, bel⟩ => ?_
  subst he
  exact ⟨_, rfl, _, _, _, [], _, [], hW', trodAll_mk1 (shut_bool Tryd.underlying4 _), (trodAll_cons_mk (shut_int Tryd.underlying22 w0) (trodAll_cons_mk (shut_int Tryd.underlying3 w1) (trodAll_cons_mk (Below.trod laidOut (by kernel_rfl) (of_decide_eq_true (by kernel_rfl)) k2 bel lt2) trodAll_mk0))), rfl, bel.frame _, fun h => by cases h⟩

theorem laid_met (os : Os) : laidMet Tryd.prog Rows.robinWellRow.laid ((laidWorld os).forCall (fun _ _ => 0) ⟨#[], #[.int .u64 0, .int .i64 0, .slice none 0 0], []⟩).memory :=
  laidMet_of_run' 8 (by kernel_rfl) (by kernel_rfl)
theorem reads (os : Os) {H : Type} (enc : TypeId × Value → H) : ∃ places, DataW.whole enc Tryd.prog ((laidWorld os).forCall (fun _ _ => 0) ⟨#[], #[.int .u64 0, .int .i64 0, .slice none 0 0], []⟩).memory Tryd.f4.params.toList Rows.robinWellSpec.vars false (#[.int .u64 0, .int .i64 0, .slice none 0 0] : Array Value).toList 8 = some ([.lit (.int .u64 0), .lit (.int .i64 0), .nil], [], places) :=
  ⟨[], by kernel_rfl⟩

set_option maxRecDepth 100000 in
theorem lifted (os : Os) (started : os.Started) (H : Type) (enc : TypeId × Value → H) (F : Stop.Interp) :
    ReturnsInHanded {} Tryd.checked os 4 .any ((OpenSpec.ofChange Rows.robinWellSpec).preRow enc Tryd.prog Tryd.f4 Rows.robinWellRow.domain false Rows.robinWellRow.laid) (((OpenSpec.ofChange Rows.robinWellSpec).at F).post enc Tryd.prog Tryd.f4 false true false false) := by
  obtain ⟨places, hx⟩ := reads os enc
  refine returnsInHanded_of_row (C := Tryd.checked) (s := OpenSpec.ofChange Rows.robinWellSpec) own started (by kernel_rfl) Tryd.func4
    (witness_row_at (enc := enc) (C := Tryd.checked) false (laidWorld os) #[.int .u64 0, .int .i64 0, .slice none 0 0] rfl (by kernel_rfl) (by kernel_rfl) (by kernel_rfl)
      (OpenSpec.preRow_of_cond 8 hx (by kernel_rfl) (fun k hk => by cases hk) (by kernel_rfl) (laid_met os))) ?_
  intro W base args ds gs before hval hW _ _ _ hL _ _
  exact contract H enc W base args ds gs before hval hW hL

theorem said : Rows.RobinWellSaid :=
  OpenClaim.holds_of_cond 4 Tryd.f4 rfl rfl rfl rfl rfl rfl rfl ⟨rfl, rfl, rfl, rfl, rfl⟩ rfl rfl rfl rfl rfl (by kernel_rfl) Tryd.func4 (by kernel_rfl)
    (of_decide_eq_true (by kernel_rfl)) (by unfold Func.isWrapper; first | (rw [if_pos (by decide +kernel)]; kernel_rfl) | (rw [if_neg (by decide +kernel)]; exact ⟨rfl, rfl⟩))
    (fun os started H enc _ F => by rw [OpenClaim.pre_eq_preRow]; exact lifted os started H enc F)
theorem plain (f : FuncId) (fn : Func) (hf : Tryd.pinned.checked.prog.funcNamed Rows.robinWellRow.func = some f) (hfn : Tryd.pinned.checked.prog.funcs[f]? = some fn) :
    false = Tryd.pinned.checked.prog.looks [] ∧ ∀ (j : Nat) t, fn.params[j]? = some t → Tryd.pinned.checked.prog.wantsStandIn t = false := by
  obtain rfl : f = 4 := Option.some.inj ((show Tryd.prog.funcNamed Rows.robinWellRow.func = some 4 by kernel_rfl).symm.trans hf) |>.symm
  obtain rfl : fn = Tryd.f4 := (Option.some.inj (Tryd.func4.symm.trans hfn)).symm
  refine ⟨by kernel_rfl, fun j t ht => ?_⟩
  rw [Tryd.params4] at ht
  have hm := Array.mem_of_getElem? ht
  simp only [List.mem_toArray, List.mem_cons, List.not_mem_nil, or_false] at hm
  rcases hm with rfl | rfl | rfl
  · exact (show Tryd.prog.wantsStandIn 22 = false by kernel_rfl)
  · exact (show Tryd.prog.wantsStandIn 3 = false by kernel_rfl)
  · exact (show Tryd.prog.wantsStandIn 23 = false by kernel_rfl)
theorem card : Rows.RobinWellCardSaid :=
  Claim7.holds_tied_plain_at .later [] _ _ _ _ said (fun _ h => by cases h) (by kernel_rfl) (fun _ h => by cases h) robinWell_row_tie rfl ⟨rfl, rfl⟩ (by kernel_rfl) rfl plain (by kernel_rfl)
end Go.Proofs.YtgcdminjpdbchaaDoor.robinWell
namespace Go.Proofs.YtgcdminjpdbchaaDoor
theorem robinWell_proved : Rows.RobinWellCardSaid := robinWell.card
end Go.Proofs.YtgcdminjpdbchaaDoor

