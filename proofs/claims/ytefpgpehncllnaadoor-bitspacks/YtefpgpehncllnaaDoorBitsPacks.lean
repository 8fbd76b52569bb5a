/- For all widths, values and words the law BitsPacks returns true: bits.Pack and Unpack answer as the document's own do (of at most 120 each, else only the document's examples are asked). The card's tie: the table of math/bits holds what its initialiser lays. -/
import Derived.Test.YtefpgpehncllnaaDoorBitsTab
import Derived.Test.YtefpgpehncllnaaDoorBits11
namespace Go.Proofs.YtefpgpehncllnaaDoor.bitsPacks
open Go.ChangeShapes Go.WideShapes Go.ChangeAt Go.RowKit
set_option linter.unusedVariables false

set_option maxRecDepth 100000 in
set_option maxHeartbeats 2000000 in
theorem walk_big (A A2 A3 : Option Addr) (len cap len2 cap2 len3 cap3 : Nat) (W : World) (ht : TabW W) (h : 120 < len ∨ 120 < len2 ∨ 120 < len3) :
    Calls Tryd.prog 5 #[.slice A len cap, .slice A2 len2 cap2, .slice A3 len3 cap3] W fun e w' => e = .returned (.bool true) ∧ Below W.heap.size W w' := by
  have HT := Lib.hid ht
  clear ht
  have h' : 120 < len ∨ (¬ 120 < len ∧ 120 < len2) ∨ (¬ 120 < len ∧ ¬ 120 < len2 ∧ 120 < len3) := by omega
  clear h
  rcases h' with h | ⟨h, h2⟩ | ⟨h, h2, h3⟩
  · go_enter Tryd.func5, Tryd.ntmps5
    go_wp2_with (first | (go_at_call 10; refine (live_any _ HT.out).mono ?_; rintro e w1 ⟨rfl, hbl⟩))
    go_ret
    exact ⟨rfl, hbl⟩
  · go_enter Tryd.func5, Tryd.ntmps5
    go_wp2_with (first | (go_at_call 10; refine (live_any _ HT.out).mono ?_; rintro e w1 ⟨rfl, hbl⟩))
    go_ret
    exact ⟨rfl, hbl⟩
  · go_enter Tryd.func5, Tryd.ntmps5
    go_wp2_with (first | (go_at_call 10; refine (live_any _ HT.out).mono ?_; rintro e w1 ⟨rfl, hbl⟩))
    go_ret
    exact ⟨rfl, hbl⟩

set_option maxRecDepth 100000 in
set_option maxHeartbeats 4000000 in
theorem walk_small (A A2 A3 : Option Addr) (len cap len2 cap2 len3 cap3 : Nat) (ws : List Int) (vs ns : List Nat) (W : World) (hw : Ints W A len ws) (hv : Words W A2 len2 vs) (hn : Words W A3 len3 ns) (ht : TabW W)
    (h1 : len ≤ 120) (h2 : len2 ≤ 120) (h3 : len3 ≤ 120) (hc : len ≤ cap) (hc2 : len2 ≤ cap2) (hc3 : len3 ≤ cap3) :
    Calls Tryd.prog 5 #[.slice A len cap, .slice A2 len2 cap2, .slice A3 len3 cap3] W fun e w' => e = .returned (.bool true) ∧ Below W.heap.size W w' := by
  obtain ⟨l1, xs1, b1, hl1, P1, P2⟩ := pack_both A A2 len cap len2 cap2 ws vs (by omega) (by omega) hc hc2 hw.1
  obtain ⟨l2, xs2, b2, hl2, U1, U2⟩ := unpack_both A A3 len cap len3 cap3 ws ns (by omega) (by omega) hc hc3 hw.1 hn.1
  have P1 := Lib.hid P1
  have P2 := Lib.hid P2
  have U1 := Lib.hid U1
  have U2 := Lib.hid U2
  have HI := Lib.hid hw
  have HV := Lib.hid hv
  have HNN := Lib.hid hn
  have HT := Lib.hid ht
  clear hw hv hn ht
  go_enter Tryd.func5, Tryd.ntmps5
  go_wp2_with fail
  refine (P1.out _ HI.out HV.out).mono ?_
  rintro e w1 ⟨A1, c1, rfl, hc1, hr1, hb1⟩
  have B1 := Lib.hid hb1
  have HI1 := Lib.hid (HI.out.below hb1)
  have HV1 := Lib.hid (HV.out.below hb1)
  have HN1 := Lib.hid (HNN.out.below hb1)
  have HT1 := Lib.hid (HT.out.below hb1)
  have R1 := Lib.hid hr1
  clear hb1 hr1
  go_wp2_with fail
  refine (P2.out _ HI1.out HV1.out).mono ?_
  rintro e w2 ⟨A4, c4, rfl, hc4, hr2, hb2⟩
  have B2 : Hid (Below W.heap.size W w2) := B1.out.trans (hb2.mono B1.out.size)
  have HI2 := Lib.hid (HI1.out.below hb2)
  have HN2 := Lib.hid (HN1.out.below hb2)
  have HT2 := Lib.hid (HT1.out.below hb2)
  have R12 := Lib.hid (R1.out.below hb2)
  have R2 := Lib.hid hr2
  clear hb2 hr2
  go_wp2_with fail
  refine (U1.out _ HT2.out HI2.out HN2.out).mono ?_
  rintro e w3 ⟨A5, c5, rfl, hc5, hr3, hb3⟩
  have B3 : Hid (Below W.heap.size W w3) := B2.out.trans (hb3.mono B2.out.size)
  have HI3 := Lib.hid (HI2.out.below hb3)
  have HN3 := Lib.hid (HN2.out.below hb3)
  have HT3 := Lib.hid (HT2.out.below hb3)
  have R13 := Lib.hid (R12.out.below hb3)
  have R23 := Lib.hid (R2.out.below hb3)
  have R3 := Lib.hid hr3
  clear hb3 hr3
  go_wp2_with fail
  refine (U2.out _ HI3.out HN3.out).mono ?_
  rintro e w4 ⟨A6, c6, rfl, hc6, hr4, hb4⟩
  have B4 : Hid (Below W.heap.size W w4) := B3.out.trans (hb4.mono B3.out.size)
  have HT4 := Lib.hid (HT3.out.below hb4)
  have R14 := Lib.hid (R13.out.below hb4)
  have R24 := Lib.hid (R23.out.below hb4)
  have R34 := Lib.hid (R3.out.below hb4)
  have R4 := Lib.hid hr4
  clear hb4 hr4
  go_wp2_with fail
  refine (Same_yes A1 A4 l1 c1 c4 xs1 _ hl1 hc1 hc4 R14.out R24.out).mono ?_
  rintro e w5 ⟨rfl, hb5⟩
  have B5 : Hid (Below W.heap.size W w5) := B4.out.trans (hb5.mono B4.out.size)
  have HT5 := Lib.hid (HT4.out.below hb5)
  have R35 := Lib.hid (R34.out.below hb5)
  have R45 := Lib.hid (R4.out.below hb5)
  clear hb5
  go_wp2_with fail
  refine (Same_yes A5 A6 l2 c5 c6 xs2 _ hl2 hc5 hc6 R35.out R45.out).mono ?_
  rintro e w6 ⟨rfl, hb6⟩
  have B6 : Hid (Below W.heap.size W w6) := B5.out.trans (hb6.mono B5.out.size)
  have HT6 := Lib.hid (HT5.out.below hb6)
  clear hb6
  go_wp2_with fail
  refine (live_any _ HT6.out).mono ?_
  rintro e w7 ⟨rfl, hb7⟩
  have B7 : Hid (Below W.heap.size W w7) := B6.out.trans (hb7.mono B6.out.size)
  clear hb7
  go_wp2
  go_ret
  exact ⟨rfl, B7.out⟩

theorem walk (A : Option Addr) (len cap : Nat) (z1 : List Int) (A2 : Option Addr) (len2 cap2 : Nat) (z2 : List Int) (A3 : Option Addr) (len3 cap3 : Nat) (z3 : List Int) {W : World} (h1 : IsInts .i64 W A len cap z1) (h2 : IsInts .u64 W A2 len2 cap2 z2) (h3 : IsInts .u64 W A3 len3 cap3 z3) (ht : TabW W) :
    Calls Tryd.prog 5 #[.slice A len cap, .slice A2 len2 cap2, .slice A3 len3 cap3] W fun e w' => e = .returned (.bool true) ∧ Below W.heap.size W w' := by
  obtain ⟨i1, c1, _⟩ := ints_of h1
  obtain ⟨vs, i2, c2, _, _⟩ := words_of h2
  obtain ⟨ns, i3, c3, _, _⟩ := words_of h3
  by_cases h : 120 < len ∨ 120 < len2 ∨ 120 < len3
  · exact walk_big A A2 A3 len cap len2 cap2 len3 cap3 W ht h
  · exact walk_small A A2 A3 len cap len2 cap2 len3 cap3 _ vs ns W i1 i2 i3 ht (by omega) (by omega) (by omega) c1 c2 c3

theorem own : ownKnob Tryd.prog.godebug = none := by kernel_rfl
theorem laidOut : laidOutB Tryd.prog = true := by kernel_rfl
theorem contract (H : Type) (enc : TypeId × Value → H) (W : World) (base : Nat) (args : Array Value) (ds gs : List (DataW H)) (before : List MemPlace)
    (hval : ∀ (j : Nat) t v, Tryd.f5.params[j]? = some t → args[j]? = some v → Value.okWide Tryd.prog W .any base t v)
    (hW : DataW.Whole enc Tryd.prog Tryd.f5.params.toList Rows.bitsPacksSpec.vars false W args.toList ds gs before) (hL : laidMetH Tryd.prog Rows.bitsPacksRow.laid W) :
    Calls Tryd.prog 5 args W fun e W' => ∃ v, e = .returned v ∧ Rows.bitsPacksSpec.post enc Tryd.prog Tryd.f5 false true false false W args v W' := by
  have hW' := hW
  obtain ⟨p, q, hA0, hV, rfl, hfz, hnd⟩ := hW
  have hA : DataW.TrodAll enc Tryd.prog W 0 (fun _ => true) true Tryd.f5.params.toList args.toList ds p := hA0
  rw [Tryd.params5] at hA hval
  obtain ⟨v0, vs0, d0, ds0, p0, q0, hargs, rfl, rfl, h0, r0⟩ := trodAll_cons hA
  obtain ⟨v1, vs1, d1, ds1, p1, q1, rfl, rfl, rfl, h1, r1⟩ := trodAll_cons r0
  obtain ⟨v2, vs2, d2, ds2, p2, q2, rfl, rfl, rfl, h2, r2⟩ := trodAll_cons r1
  obtain ⟨rfl, rfl, rfl⟩ := trodAll_nil r2
  obtain rfl : args = #[v0, v1, v2] := by cases args; simp_all
  obtain ⟨rfl, rfl⟩ := trodVars_none hV
  have k0 := h0
  have lt0 : ∀ x ∈ p0, x.block < W.heap.size := by obtain ⟨m, hm⟩ := k0; exact DataW.trod_lt m _ _ _ hm
  obtain ⟨a0, len0, cap0, z0, rfl, w0⟩ := open_slice_int Tryd.underlying36 Tryd.underlying3 (by kernel_rfl) (hval 0 36 v0 rfl rfl) h0
  have k1 := h1
  have lt1 : ∀ x ∈ p1, x.block < W.heap.size := by obtain ⟨m, hm⟩ := k1; exact DataW.trod_lt m _ _ _ hm
  obtain ⟨a1, len1, cap1, z1, rfl, w1⟩ := open_slice_int Tryd.underlying22 Tryd.underlying24 (by kernel_rfl) (hval 1 22 v1 rfl rfl) h1
  have k2 := h2
  have lt2 : ∀ x ∈ p2, x.block < W.heap.size := by obtain ⟨m, hm⟩ := k2; exact DataW.trod_lt m _ _ _ hm
  obtain ⟨a2, len2, cap2, z2, rfl, w2⟩ := open_slice_int Tryd.underlying22 Tryd.underlying24 (by kernel_rfl) (hval 2 22 v2 rfl rfl) h2
  clear hA0
  refine (walk a0 len0 cap0 z0 a1 len1 cap1 z1 a2 len2 cap2 z2 w0 w1 w2 (tabW_of hL)).mono fun e W' ⟨he, bel⟩ => ?_
  subst he
  exact ⟨_, rfl, _, _, _, [], _, [], hW', trodAll_mk1 (shut_bool Tryd.underlying4 _), (trodAll_cons_mk (Below.trod laidOut (by kernel_rfl) (of_decide_eq_true (by kernel_rfl)) k0 bel lt0) (trodAll_cons_mk (Below.trod laidOut (by kernel_rfl) (of_decide_eq_true (by kernel_rfl)) k1 bel lt1) (trodAll_cons_mk (Below.trod laidOut (by kernel_rfl) (of_decide_eq_true (by kernel_rfl)) k2 bel lt2) trodAll_mk0))), rfl, bel.frame _, fun h => by cases h⟩

theorem laid_met (os : Os) : laidMet Tryd.prog Rows.bitsPacksRow.laid ((laidWorld os).forCall (fun _ _ => 0) ⟨#[], #[.slice none 0 0, .slice none 0 0, .slice none 0 0], []⟩).memory :=
  laidMet_of_run' 8 (by kernel_rfl) (by kernel_rfl)
theorem reads (os : Os) {H : Type} (enc : TypeId × Value → H) : ∃ places, DataW.whole enc Tryd.prog ((laidWorld os).forCall (fun _ _ => 0) ⟨#[], #[.slice none 0 0, .slice none 0 0, .slice none 0 0], []⟩).memory Tryd.f5.params.toList Rows.bitsPacksSpec.vars false (#[.slice none 0 0, .slice none 0 0, .slice none 0 0] : Array Value).toList 8 = some ([.nil, .nil, .nil], [], places) :=
  ⟨[], by kernel_rfl⟩

set_option maxRecDepth 100000 in
theorem lifted (os : Os) (started : os.Started) (H : Type) (enc : TypeId × Value → H) (F : Stop.Interp) :
    ReturnsInHanded {} Tryd.checked os 5 .any ((OpenSpec.ofChange Rows.bitsPacksSpec).preRow enc Tryd.prog Tryd.f5 Rows.bitsPacksRow.domain false Rows.bitsPacksRow.laid) (((OpenSpec.ofChange Rows.bitsPacksSpec).at F).post enc Tryd.prog Tryd.f5 false true false false) := by
  obtain ⟨places, hx⟩ := reads os enc
  refine returnsInHanded_of_row (C := Tryd.checked) (s := OpenSpec.ofChange Rows.bitsPacksSpec) own started (by kernel_rfl) Tryd.func5
    (witness_row_at (enc := enc) (C := Tryd.checked) false (laidWorld os) #[.slice none 0 0, .slice none 0 0, .slice none 0 0] rfl (by kernel_rfl) (by kernel_rfl) (by kernel_rfl)
      (OpenSpec.preRow_of_cond 8 hx (by kernel_rfl) (fun k hk => by cases hk) (by kernel_rfl) (laid_met os))) ?_
  intro W base args ds gs before hval hW _ _ _ hL _ _
  exact contract H enc W base args ds gs before hval hW hL

theorem said : Rows.BitsPacksSaid :=
  OpenClaim.holds_of_cond 5 Tryd.f5 rfl rfl rfl rfl rfl rfl rfl ⟨rfl, rfl, rfl, rfl, rfl⟩ rfl rfl rfl rfl rfl (by kernel_rfl) Tryd.func5 (by kernel_rfl)
    (of_decide_eq_true (by kernel_rfl)) (by unfold Func.isWrapper; first | (rw [if_pos (by decide +kernel)]; kernel_rfl) | (rw [if_neg (by decide +kernel)]; exact ⟨rfl, rfl⟩))
    (fun os started H enc _ F => by rw [OpenClaim.pre_eq_preRow]; exact lifted os started H enc F)
theorem plain (f : FuncId) (fn : Func) (hf : Tryd.pinned.checked.prog.funcNamed Rows.bitsPacksRow.func = some f) (hfn : Tryd.pinned.checked.prog.funcs[f]? = some fn) :
    false = Tryd.pinned.checked.prog.looks [] ∧ ∀ (j : Nat) t, fn.params[j]? = some t → Tryd.pinned.checked.prog.wantsStandIn t = false := by
  obtain rfl : f = 5 := Option.some.inj ((show Tryd.prog.funcNamed Rows.bitsPacksRow.func = some 5 by kernel_rfl).symm.trans hf) |>.symm
  obtain rfl : fn = Tryd.f5 := (Option.some.inj (Tryd.func5.symm.trans hfn)).symm
  refine ⟨by kernel_rfl, fun j t ht => ?_⟩
  rw [Tryd.params5] at ht
  have hm := Array.mem_of_getElem? ht
  simp only [List.mem_toArray, List.mem_cons, List.not_mem_nil, or_false] at hm
  rcases hm with rfl | rfl | rfl
  · exact (show Tryd.prog.wantsStandIn 36 = false by kernel_rfl)
  · exact (show Tryd.prog.wantsStandIn 22 = false by kernel_rfl)
  · exact (show Tryd.prog.wantsStandIn 22 = false by kernel_rfl)
theorem card : Rows.BitsPacksCardSaid :=
  Claim7.holds_tied_plain_at .later [] _ _ _ _ said (fun _ h => by cases h) (by kernel_rfl) (fun _ h => by cases h) bitsPacks_row_tie rfl ⟨rfl, rfl⟩ (by kernel_rfl) rfl plain (by kernel_rfl)
end Go.Proofs.YtefpgpehncllnaaDoor.bitsPacks
namespace Go.Proofs.YtefpgpehncllnaaDoor
theorem bitsPacks_proved : Rows.BitsPacksCardSaid := bitsPacks.card
end Go.Proofs.YtefpgpehncllnaaDoor

