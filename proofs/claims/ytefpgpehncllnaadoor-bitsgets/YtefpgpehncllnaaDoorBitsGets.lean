/- For all words, every field and every number the law BitsGets returns true: bits.Get and Set answer as the document's own do (of at most 20 words, else only the document's examples are asked). The card's tie: the table of math/bits holds what its initialiser lays. -/
import Derived.Test.YtefpgpehncllnaaDoorBitsTab
import Derived.Deep.RegionHeld3
namespace Go.Proofs.YtefpgpehncllnaaDoor.bitsGets
open Go.ChangeShapes Go.WideShapes Go.ChangeAt Go.RowKit
set_option linter.unusedVariables false

/-- What Get tells, the same of both. -/
theorem get_both (A : Option Addr) (len cap : Nat) (ns : List Nat) (p k : Int) (hl : len ≤ 1000) (hc : len ≤ cap) : ∃ (x : Int) (y : Bool),
    (∀ w, Words w A len ns → Calls Tryd.prog 11 #[.slice A len cap, .int .i64 p, .int .i64 k] w fun e w' => e = .returned (.tuple #[.int .u64 x, .bool y]) ∧ w = w') ∧
    (∀ w, Words w A len ns → Calls Tryd.prog 12 #[.slice A len cap, .int .i64 p, .int .i64 k] w fun e w' => e = .returned (.tuple #[.int .u64 x, .bool y]) ∧ w = w') := by
  by_cases h : InField len p k
  · have h' := h
    unfold InField at h'
    obtain ⟨p, rfl⟩ := Int.eq_ofNat_of_zero_le h'.1
    obtain ⟨k, rfl⟩ := Int.eq_ofNat_of_zero_le h'.2.1
    exact ⟨_, _, fun w hw => Get_yes A len cap ns p k w hl hc hw (by omega) (by omega), fun w hw => rGet_yes A len cap ns p k w hl hc hw (by omega) (by omega)⟩
  · exact ⟨_, _, fun w hw => Get_no A len cap p k w hl h, fun w hw => rGet_no A len cap p k w hl h⟩

/-- A slice that is told, with the words that it reads as. -/
def Tells (len : Nat) (ns : List Nat) (b : Bool) (w : World) (e : Ending) (w' : World) : Prop :=
  ∃ A cap, e = .returned (.tuple #[.slice A len cap, .bool b]) ∧ len ≤ cap ∧ Words w' A len ns ∧ Below w.heap.size w w'
theorem Tells.of {len : Nat} {ns : List Nat} {w : World} {e : Ending} {w' : World} (h : SetTold len ns w e w') : Tells len ns true w e w' := by
  obtain ⟨A, c, rfl, hf, hb⟩ := h
  exact ⟨A, c, rfl, hf.1, hf.words, hb⟩
theorem no_words (w : World) : Words w none 0 [] := ⟨rfl, (by intro x hx; cases hx), fun h => absurd h (by omega)⟩

theorem set_both (A : Option Addr) (len cap : Nat) (ns : List Nat) (p k : Int) (n : Nat) (hl : len ≤ 1000) (hc : len ≤ cap) (hnil : A = none → cap = 0 ∧ len = 0) (hn : n < 18446744073709551616) (hlen : ns.length = len) (hall : AllW ns) : ∃ (l : Nat) (xs : List Nat) (y : Bool), l ≤ 1000 ∧
    (∀ w, Words w A len ns → Calls Tryd.prog 13 #[.slice A len cap, .int .i64 p, .int .i64 k, .int .u64 n] w (Tells l xs y w)) ∧
    (∀ w, Words w A len ns → Calls Tryd.prog 14 #[.slice A len cap, .int .i64 p, .int .i64 k, .int .u64 n] w (Tells l xs y w)) := by
  by_cases h : InField len p k
  · have h' := h
    unfold InField at h'
    obtain ⟨p, rfl⟩ := Int.eq_ofNat_of_zero_le h'.1
    obtain ⟨k, rfl⟩ := Int.eq_ofNat_of_zero_le h'.2.1
    refine ⟨len, setW ns p k n, true, hl, fun w hw => (Set_yes A len cap ns p k n w hl hw (by omega) (by omega) hn).mono fun e w' hh => Tells.of hh, fun w hw => ?_⟩
    cases A with
    | some ad => exact (rSet_yes ad len cap ns p k n w hl hw (by omega) (by omega) hn).mono fun e w' hh => Tells.of hh
    | none =>
      obtain ⟨rfl, rfl⟩ := hnil rfl
      obtain rfl : k = 0 := by omega
      obtain rfl : p = 0 := by omega
      obtain rfl : ns = [] := List.eq_nil_of_length_eq_zero hlen
      exact (rSet_nil 0 n w rfl).mono fun e w' hh => Tells.of hh
  · refine ⟨0, [], false, by omega, fun w hw => (Set_no A len cap p k n w hl h).mono ?_, fun w hw => (rSet_no A len cap p k n w hl h).mono ?_⟩
    · rintro e w' ⟨rfl, rfl⟩; exact ⟨none, 0, rfl, Nat.le_refl _, no_words _, Below.refl _ _⟩
    · rintro e w' ⟨rfl, rfl⟩; exact ⟨none, 0, rfl, Nat.le_refl _, no_words _, Below.refl _ _⟩

set_option maxRecDepth 100000 in
set_option maxHeartbeats 1000000 in
theorem walk (A : Option Addr) (len cap : Nat) (zs : List Int) (x0 x1 n : Int) {W : World} (hw : IsInts .u64 W A len cap zs) (w0 : (Lit.int .i64 x0).wf = true) (w1 : (Lit.int .i64 x1).wf = true) (wn : (Lit.int .u64 n).wf = true) (ht : TabW W) :
    Calls Tryd.prog 3 #[.slice A len cap, .agg ([x0, x1].map (Value.int .i64)).toArray, .int .u64 n] W fun e w' => e = .returned (.bool true) ∧ Below W.heap.size W w' := by
  obtain ⟨ns, hW, hc, hnil, hlm⟩ := words_of hw
  have hn := wf_u wn
  obtain ⟨n, rfl⟩ := Int.eq_ofNat_of_zero_le hn.1
  show Calls Tryd.prog 3 #[.slice A len cap, .agg #[.int .i64 x0, .int .i64 x1], .int .u64 n] W fun e w' => e = .returned (.bool true) ∧ Below W.heap.size W w'
  have HT := Lib.hid (ht.below ((Below.refl _ _).alloc (Nat.le_refl _) (Obj.cells #[Value.int IntKind.i64 x0, Value.int IntKind.i64 x1] 23)))
  have HW := Lib.hid (hW.below ((Below.refl _ _).alloc (Nat.le_refl _) (Obj.cells #[Value.int IntKind.i64 x0, Value.int IntKind.i64 x1] 23)))
  have h1 := Lib.hid hW.1
  have h2 := Lib.hid hW.2.1
  have hn2 : n < 18446744073709551616 := by have := hn.2; omega
  have HN := Lib.hid hn2
  clear hn2
  have HNIL := Lib.hid hnil
  clear hw ht hW hn wn w0 w1 hlm hnil
  by_cases h20 : 20 < len
  · go_enter Tryd.func3, Tryd.ntmps3
    go_wp2_with (first | (go_at_call 10; refine (live_any _ HT.out).mono ?_; rintro e w1 ⟨rfl, hbl⟩))
    go_ret
    exact ⟨rfl, ((Below.refl _ _).alloc (Nat.le_refl _) _).trans (hbl.mono (by simp))⟩
  · obtain ⟨gx, gy, G1, G2⟩ := get_both A len cap ns x0 x1 (by omega) hc
    obtain ⟨l, xs, y, hl, S1, S2⟩ := set_both A len cap ns x0 x1 n (by omega) hc HNIL.out HN.out h1.out h2.out
    have G1 := Lib.hid G1
    have G2 := Lib.hid G2
    have S1 := Lib.hid S1
    have S2 := Lib.hid S2
    go_enter Tryd.func3, Tryd.ntmps3
    go_wp2_with fail
    refine (G1.out _ HW.out).mono ?_
    rintro e w1 ⟨rfl, rfl⟩
    go_wp2_with fail
    refine (G2.out _ HW.out).mono ?_
    rintro e w1 ⟨rfl, rfl⟩
    go_wp2_with fail
    refine (S1.out _ HW.out).mono ?_
    rintro e w1 ⟨A1, c1, rfl, hc1, hw1, hb1⟩
    have e0 : w1.cell? ⟨W.heap.size, 0, none⟩ = some (.int .i64 x0) := (hb1.cell (p := ⟨W.heap.size, 0, none⟩) (by simp)).trans (by simp)
    have e1 : w1.cell? ⟨W.heap.size, 1, none⟩ = some (.int .i64 x1) := (hb1.cell (p := ⟨W.heap.size, 1, none⟩) (by simp)).trans (by simp)
    have B1 : Hid (Below W.heap.size W w1) := ((Below.refl _ _).alloc (Nat.le_refl _) _).trans (hb1.mono (by simp))
    have HW1 := Lib.hid (HW.out.below hb1)
    have HT1 := Lib.hid (HT.out.below hb1)
    have R1 := Lib.hid hw1
    clear hb1 hw1
    go_wp2_with fail
    refine (S2.out _ HW1.out).mono ?_
    rintro e w2 ⟨A2, c2, rfl, hc2, hw2, hb2⟩
    have B2 : Hid (Below W.heap.size W w2) := B1.out.trans (hb2.mono B1.out.size)
    have HT2 := Lib.hid (HT1.out.below hb2)
    have R2 := Lib.hid (R1.out.below hb2)
    have R3 := Lib.hid hw2
    clear hb2 hw2 e0 e1
    go_wp2_with fail
    refine (Same_yes A1 A2 l c1 c2 xs _ hl hc1 hc2 R2.out R3.out).mono ?_
    rintro e w3 ⟨rfl, hb3⟩
    have B3 : Hid (Below W.heap.size W w3) := B2.out.trans (hb3.mono B2.out.size)
    have HT3 := Lib.hid (HT2.out.below hb3)
    clear hb3
    go_wp2_with fail
    refine (live_any _ HT3.out).mono ?_
    rintro e w4 ⟨rfl, hb4⟩
    have B4 : Hid (Below W.heap.size W w4) := B3.out.trans (hb4.mono B3.out.size)
    clear hb4
    go_wp2
    go_ret
    exact ⟨rfl, B4.out⟩

theorem own : ownKnob Tryd.prog.godebug = none := by kernel_rfl
theorem laidOut : laidOutB Tryd.prog = true := by kernel_rfl
theorem contract (H : Type) (enc : TypeId × Value → H) (W : World) (base : Nat) (args : Array Value) (ds gs : List (DataW H)) (before : List MemPlace)
    (hval : ∀ (j : Nat) t v, Tryd.f3.params[j]? = some t → args[j]? = some v → Value.okWide Tryd.prog W .any base t v)
    (hW : DataW.Whole enc Tryd.prog Tryd.f3.params.toList Rows.bitsGetsSpec.vars false W args.toList ds gs before) (hL : laidMetH Tryd.prog Rows.bitsGetsRow.laid W) :
    Calls Tryd.prog 3 args W fun e W' => ∃ v, e = .returned v ∧ Rows.bitsGetsSpec.post enc Tryd.prog Tryd.f3 false true false false W args v W' := by
  have hW' := hW
  obtain ⟨p, q, hA0, hV, rfl, hfz, hnd⟩ := hW
  have hA : DataW.TrodAll enc Tryd.prog W 0 (fun _ => true) true Tryd.f3.params.toList args.toList ds p := hA0
  rw [Tryd.params3] at hA hval
  obtain ⟨v0, vs0, d0, ds0, p0, q0, hargs, rfl, rfl, h0, r0⟩ := trodAll_cons hA
  obtain ⟨v1, vs1, d1, ds1, p1, q1, rfl, rfl, rfl, h1, r1⟩ := trodAll_cons r0
  obtain ⟨v2, vs2, d2, ds2, p2, q2, rfl, rfl, rfl, h2, r2⟩ := trodAll_cons r1
  obtain ⟨rfl, rfl, rfl⟩ := trodAll_nil r2
  obtain rfl : args = #[v0, v1, v2] := by cases args; simp_all
  obtain ⟨rfl, rfl⟩ := trodVars_none hV
  have k0 := h0
  have lt0 : ∀ x ∈ p0, x.block < W.heap.size := by obtain ⟨m, hm⟩ := k0; exact DataW.trod_lt m _ _ _ hm
  obtain ⟨a0, len0, cap0, z0, rfl, w0⟩ := open_slice_int Tryd.underlying22 Tryd.underlying24 (by kernel_rfl) (hval 0 22 v0 rfl rfl) h0
  have k1 := h1
  have lt1 : ∀ x ∈ p1, x.block < W.heap.size := by obtain ⟨m, hm⟩ := k1; exact DataW.trod_lt m _ _ _ hm
  obtain ⟨l1, rfl, hl1, wl1⟩ := open_arr_int Tryd.underlying23 Tryd.underlying3 (by kernel_rfl) (by kernel_rfl) (hval 1 23 v1 rfl rfl) h1
  obtain ⟨x1_0, x1_1, rfl⟩ : ∃ x1_0 x1_1, l1 = [x1_0, x1_1] := by
    match l1, hl1 with
    | [x1_0, x1_1], _ => exact ⟨x1_0, x1_1, rfl⟩
  obtain ⟨a2, rfl, rfl, rfl, w2⟩ := open_int Tryd.underlying24 (hval 2 24 v2 rfl rfl) h2
  clear hA0
  refine (walk a0 len0 cap0 z0 x1_0 x1_1 a2 w0 (wl1 x1_0 (by simp)) (wl1 x1_1 (by simp)) w2 (tabW_of hL)).mono fun e W' ⟨he, bel⟩ => ?_
  subst he
  exact ⟨_, rfl, _, _, _, [], _, [], hW', trodAll_mk1 (shut_bool Tryd.underlying4 _), (trodAll_cons_mk (Below.trod laidOut (by kernel_rfl) (of_decide_eq_true (by kernel_rfl)) k0 bel lt0) (trodAll_cons_mk (Below.trod laidOut (by kernel_rfl) (of_decide_eq_true (by kernel_rfl)) k1 bel lt1) (trodAll_cons_mk (shut_int Tryd.underlying24 w2) trodAll_mk0))), rfl, bel.frame _, fun h => by cases h⟩

theorem laid_met (os : Os) : laidMet Tryd.prog Rows.bitsGetsRow.laid ((laidWorld os).forCall (fun _ _ => 0) ⟨#[], #[.slice none 0 0, .agg #[.int .i64 0, .int .i64 0], .int .u64 0], []⟩).memory :=
  laidMet_of_run' 8 (by kernel_rfl) (by kernel_rfl)
theorem reads (os : Os) {H : Type} (enc : TypeId × Value → H) : ∃ places, DataW.whole enc Tryd.prog ((laidWorld os).forCall (fun _ _ => 0) ⟨#[], #[.slice none 0 0, .agg #[.int .i64 0, .int .i64 0], .int .u64 0], []⟩).memory Tryd.f3.params.toList Rows.bitsGetsSpec.vars false (#[.slice none 0 0, .agg #[.int .i64 0, .int .i64 0], .int .u64 0] : Array Value).toList 8 = some ([.nil, .agg [.lit (.int .i64 0), .lit (.int .i64 0)], .lit (.int .u64 0)], [], places) :=
  ⟨[], by kernel_rfl⟩

set_option maxRecDepth 100000 in
theorem lifted (os : Os) (started : os.Started) (H : Type) (enc : TypeId × Value → H) (F : Stop.Interp) :
    ReturnsInHanded {} Tryd.checked os 3 .any ((OpenSpec.ofChange Rows.bitsGetsSpec).preRow enc Tryd.prog Tryd.f3 Rows.bitsGetsRow.domain false Rows.bitsGetsRow.laid) (((OpenSpec.ofChange Rows.bitsGetsSpec).at F).post enc Tryd.prog Tryd.f3 false true false false) := by
  obtain ⟨places, hx⟩ := reads os enc
  refine returnsInHanded_of_row (C := Tryd.checked) (s := OpenSpec.ofChange Rows.bitsGetsSpec) own started (by kernel_rfl) Tryd.func3
    (witness_row_at (enc := enc) (C := Tryd.checked) false (laidWorld os) #[.slice none 0 0, .agg #[.int .i64 0, .int .i64 0], .int .u64 0] rfl (by kernel_rfl) (by kernel_rfl) (by kernel_rfl)
      (OpenSpec.preRow_of_cond 8 hx (by kernel_rfl) (fun k hk => by cases hk) (by kernel_rfl) (laid_met os))) ?_
  intro W base args ds gs before hval hW _ _ _ hL _ _
  exact contract H enc W base args ds gs before hval hW hL

theorem said : Rows.BitsGetsSaid :=
  OpenClaim.holds_of_cond 3 Tryd.f3 rfl rfl rfl rfl rfl rfl rfl ⟨rfl, rfl, rfl, rfl, rfl⟩ rfl rfl rfl rfl rfl (by kernel_rfl) Tryd.func3 (by kernel_rfl)
    (of_decide_eq_true (by kernel_rfl)) (by unfold Func.isWrapper; first | (rw [if_pos (by decide +kernel)]; kernel_rfl) | (rw [if_neg (by decide +kernel)]; exact ⟨rfl, rfl⟩))
    (fun os started H enc _ F => by rw [OpenClaim.pre_eq_preRow]; exact lifted os started H enc F)
theorem plain (f : FuncId) (fn : Func) (hf : Tryd.pinned.checked.prog.funcNamed Rows.bitsGetsRow.func = some f) (hfn : Tryd.pinned.checked.prog.funcs[f]? = some fn) :
    false = Tryd.pinned.checked.prog.looks [] ∧ ∀ (j : Nat) t, fn.params[j]? = some t → Tryd.pinned.checked.prog.wantsStandIn t = false := by
  obtain rfl : f = 3 := Option.some.inj ((show Tryd.prog.funcNamed Rows.bitsGetsRow.func = some 3 by kernel_rfl).symm.trans hf) |>.symm
  obtain rfl : fn = Tryd.f3 := (Option.some.inj (Tryd.func3.symm.trans hfn)).symm
  refine ⟨by kernel_rfl, fun j t ht => ?_⟩
  rw [Tryd.params3] at ht
  have hm := Array.mem_of_getElem? ht
  simp only [List.mem_toArray, List.mem_cons, List.not_mem_nil, or_false] at hm
  rcases hm with rfl | rfl | rfl
  · exact (show Tryd.prog.wantsStandIn 22 = false by kernel_rfl)
  · exact (show Tryd.prog.wantsStandIn 23 = false by kernel_rfl)
  · exact (show Tryd.prog.wantsStandIn 24 = false by kernel_rfl)
theorem card : Rows.BitsGetsCardSaid :=
  Claim7.holds_tied_plain_at .later [] _ _ _ _ said (fun _ h => by cases h) (by kernel_rfl) (fun _ h => by cases h) bitsGets_row_tie rfl ⟨rfl, rfl⟩ (by kernel_rfl) rfl plain (by kernel_rfl)
end Go.Proofs.YtefpgpehncllnaaDoor.bitsGets
namespace Go.Proofs.YtefpgpehncllnaaDoor
theorem bitsGets_proved : Rows.BitsGetsCardSaid := bitsGets.card
end Go.Proofs.YtefpgpehncllnaaDoor

