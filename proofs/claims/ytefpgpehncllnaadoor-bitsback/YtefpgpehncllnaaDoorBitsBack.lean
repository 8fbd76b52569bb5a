/- For all words, every two fields and every number the law BitsBack returns true: what bits.Set sets bits.Get gets, and a field that does not touch it is as it was (of at most 20 words, else only the document's examples are asked). The card's tie: the table of math/bits holds what its initialiser lays. -/
import Derived.Test.YtefpgpehncllnaaDoorBitsTab
namespace Go.Proofs.YtefpgpehncllnaaDoor.bitsBack
open Go.ChangeShapes Go.WideShapes Go.ChangeAt Go.RowKit
set_option linter.unusedVariables false

theorem fld_set (ns : List Nat) (p k n : Nat) (h : p + k ≤ 64 * ns.length) : fld (setW ns p k n) p k = n &&& onesN k := by
  apply Nat.eq_of_testBit_eq
  intro j
  unfold onesN
  rw [fld_bit, Nat.testBit_and, Nat.testBit_two_pow_sub_one]
  by_cases hj : j < k
  · rw [setW_bit _ _ _ _ _ (by omega), if_pos (by omega), show p + j - p = j by omega]
    simp [hj]
  · simp [hj]
theorem fld_apart (ns : List Nat) (p k n q m : Nat) (h : q + m ≤ 64 * ns.length) (ha : p + k ≤ q ∨ q + m ≤ p) : fld (setW ns p k n) q m = fld ns q m := by
  apply Nat.eq_of_testBit_eq
  intro j
  rw [fld_bit, fld_bit]
  by_cases hj : j < m
  · rw [setW_bit _ _ _ _ _ (by omega), if_neg (by omega)]
  · simp [hj]
theorem mask_int (n k : Nat) (hk : k ≤ 64) (hn : n < 18446744073709551616) : bits BinOp.and IntKind.u64 (n : Int) (IntKind.u64.wrap (IntKind.u64.wrap (2 ^ k) - 1)) = ((n &&& onesN k : Nat) : Int) := by
  rw [ones_eq k hk]; exact bits_and_u64_nat _ _ hn (onesN_lt hk)
theorem all_ones (n : Nat) (hn : n < 18446744073709551616) : n &&& onesN 64 = n := by
  unfold onesN; rw [Nat.and_two_pow_sub_one_eq_mod]; exact Nat.mod_eq_of_lt hn

/-- What Get tells of words, and of those with a field set. -/
theorem get_any (A : Option Addr) (len cap : Nat) (ns : List Nat) (p k : Int) (w : World) (hl : len ≤ 1000) (hc : len ≤ cap) (hw : Words w A len ns) : ∃ (x : Int) (y : Bool), (y = true ↔ InField len p k) ∧ (InField len p k → x = (fld ns p.toNat k.toNat : Nat)) ∧
    Calls Tryd.prog 11 #[.slice A len cap, .int .i64 p, .int .i64 k] w fun e w' => e = .returned (.tuple #[.int .u64 x, .bool y]) ∧ w = w' := by
  by_cases h : InField len p k
  · have h' := h
    unfold InField at h'
    obtain ⟨p, rfl⟩ := Int.eq_ofNat_of_zero_le h'.1
    obtain ⟨k, rfl⟩ := Int.eq_ofNat_of_zero_le h'.2.1
    exact ⟨_, _, by simp [h], fun _ => rfl, Get_yes A len cap ns p k w hl hc hw (by omega) (by omega)⟩
  · exact ⟨_, _, by simp [h], fun h2 => absurd h2 h, Get_no A len cap p k w hl h⟩

set_option maxRecDepth 100000 in
set_option maxHeartbeats 1000000 in
theorem walk (A : Option Addr) (len cap : Nat) (zs : List Int) (x0 x1 x2 x3 n : Int) {W : World} (hw : IsInts .u64 W A len cap zs) (w0 : (Lit.int .i64 x0).wf = true) (w1 : (Lit.int .i64 x1).wf = true) (w2 : (Lit.int .i64 x2).wf = true) (w3 : (Lit.int .i64 x3).wf = true) (wn : (Lit.int .u64 n).wf = true) (ht : TabW W) :
    Calls Tryd.prog 6 #[.slice A len cap, .agg ([x0, x1, x2, x3].map (Value.int .i64)).toArray, .int .u64 n] W fun e w' => e = .returned (.bool true) ∧ Below W.heap.size W w' := by
  obtain ⟨ns, hW, hc, hnil, hlm⟩ := words_of hw
  have hn := wf_u wn
  obtain ⟨n, rfl⟩ := Int.eq_ofNat_of_zero_le hn.1
  have hn2 : n < 18446744073709551616 := by have := hn.2; omega
  have HN := Lib.hid hn2
  show Calls Tryd.prog 6 #[.slice A len cap, .agg #[.int .i64 x0, .int .i64 x1, .int .i64 x2, .int .i64 x3], .int .u64 n] W fun e w' => e = .returned (.bool true) ∧ Below W.heap.size W w'
  have HT := Lib.hid (ht.below ((Below.refl _ _).alloc (Nat.le_refl _) (Obj.cells #[Value.int IntKind.i64 x0, Value.int IntKind.i64 x1, Value.int IntKind.i64 x2, Value.int IntKind.i64 x3] 39)))
  have HW := Lib.hid (hW.below ((Below.refl _ _).alloc (Nat.le_refl _) (Obj.cells #[Value.int IntKind.i64 x0, Value.int IntKind.i64 x1, Value.int IntKind.i64 x2, Value.int IntKind.i64 x3] 39)))
  have h1 := Lib.hid hW.1
  have h2 := Lib.hid hW.2.1
  clear hw ht hW hn wn w0 w1 w2 w3 hlm hnil hn2
  by_cases h20 : 20 < len
  · go_enter Tryd.func6, Tryd.ntmps6
    go_wp2_with (first | (go_at_call 10; refine (live_any _ HT.out).mono ?_; rintro e w1 ⟨rfl, hbl⟩))
    go_ret
    exact ⟨rfl, ((Below.refl _ _).alloc (Nat.le_refl _) _).trans (hbl.mono (by simp))⟩
  · by_cases hin : InField len x0 x1
    · have hin' := hin
      unfold InField at hin'
      obtain ⟨q0, q1, q2, q3⟩ := hin'
      obtain ⟨p, rfl⟩ := Int.eq_ofNat_of_zero_le q0
      obtain ⟨k, rfl⟩ := Int.eq_ofNat_of_zero_le q1
      clear q0 q1
      have S1 := Lib.hid (Set_yes A len cap ns p k n _ (by omega) HW.out (by omega) (by omega) HN.out)
      go_enter Tryd.func6, Tryd.ntmps6
      go_wp2_with fail
      refine S1.out.mono ?_
      rintro e w1 ⟨A1, c1, rfl, hf, hb1⟩
      have e0 : w1.cell? ⟨W.heap.size, 0, none⟩ = some (.int .i64 p) := (hb1.cell (p := ⟨W.heap.size, 0, none⟩) (by simp)).trans (by simp)
      have e1 : w1.cell? ⟨W.heap.size, 1, none⟩ = some (.int .i64 k) := (hb1.cell (p := ⟨W.heap.size, 1, none⟩) (by simp)).trans (by simp)
      have e2 : w1.cell? ⟨W.heap.size, 2, none⟩ = some (.int .i64 x2) := (hb1.cell (p := ⟨W.heap.size, 2, none⟩) (by simp)).trans (by simp)
      have e3 : w1.cell? ⟨W.heap.size, 3, none⟩ = some (.int .i64 x3) := (hb1.cell (p := ⟨W.heap.size, 3, none⟩) (by simp)).trans (by simp)
      have B1 : Hid (Below W.heap.size W w1) := ((Below.refl _ _).alloc (Nat.le_refl _) _).trans (hb1.mono (by simp))
      have HW1 := Lib.hid (HW.out.below hb1)
      have HT1 := Lib.hid (HT.out.below hb1)
      have R1 := Lib.hid hf.words
      have hc1 := hf.1
      clear hb1 hf
      have hlen := h1.out
      have G1 := Lib.hid (Get_yes A1 len c1 (setW ns p k n) p k w1 (by omega) hc1 R1.out (by omega) (by omega))
      rw [fld_set ns p k n (by rw [hlen]; omega)] at G1
      obtain ⟨y, d, y1, y2, G2⟩ := get_any A len cap ns x2 x3 w1 (by omega) hc HW1.out
      obtain ⟨y', d', y1', y2', G3⟩ := get_any A1 len c1 (setW ns p k n) x2 x3 w1 (by omega) hc1 R1.out
      have hdd : d = d' := by rw [Bool.eq_iff_iff, y1, y1']
      subst hdd
      have G2 := Lib.hid G2
      have G3 := Lib.hid G3
      have HY : Hid (d = true → ((p : Int) + k ≤ x2 ∨ x2 + x3 ≤ p) → y = y') := by
        intro hd hap
        have hin2 := y1.1 hd
        have := y2 hin2
        have h3 := y2' hin2
        unfold InField at hin2
        rw [this, h3, fld_apart _ _ _ _ _ _ (by rw [hlen]; omega) (by omega)]
      have HD := Lib.hid y1
      clear hlen y1 y2 y1' y2' hin
      go_wp2_with fail
      refine G1.out.mono ?_
      rintro e w' ⟨rfl, rfl⟩
      by_cases hk8 : k < 64
      · have m1 := mask_int n k (by omega) HN.out
        go_wp2_with fail
        refine G2.out.mono ?_
        rintro e w' ⟨rfl, rfl⟩
        go_wp2_with fail
        refine G3.out.mono ?_
        rintro e w' ⟨rfl, rfl⟩
        cases hd : d with
        | false =>
          clear hd
          go_wp2_with fail
          refine (live_any _ HT1.out).mono ?_
          rintro e w4 ⟨rfl, hb4⟩
          have B4 : Hid (Below W.heap.size W w4) := B1.out.trans (hb4.mono B1.out.size)
          clear hb4
          go_wp2
          go_ret
          exact ⟨rfl, B4.out⟩
        | true =>
          have hin2 := HD.out.1 hd
          have HY2 := Lib.hid (HY.out hd)
          clear hd
          unfold InField at hin2
          obtain ⟨r0, r1, r2, r3⟩ := hin2
          by_cases hA : (p : Int) + k ≤ x2
          · have t1 : (y == y') = true := by rw [HY2.out (.inl hA)]; simp
            go_wp2_with fail
            refine (live_any _ HT1.out).mono ?_
            rintro e w4 ⟨rfl, hb4⟩
            have B4 : Hid (Below W.heap.size W w4) := B1.out.trans (hb4.mono B1.out.size)
            clear hb4
            go_wp2
            go_ret
            exact ⟨rfl, B4.out⟩
          · by_cases hB : x2 + x3 ≤ (p : Int)
            · have t1 : (y == y') = true := by rw [HY2.out (.inr hB)]; simp
              go_wp2_with fail
              refine (live_any _ HT1.out).mono ?_
              rintro e w4 ⟨rfl, hb4⟩
              have B4 : Hid (Below W.heap.size W w4) := B1.out.trans (hb4.mono B1.out.size)
              clear hb4
              go_wp2
              go_ret
              exact ⟨rfl, B4.out⟩
            · skip
              go_wp2_with fail
              refine (live_any _ HT1.out).mono ?_
              rintro e w4 ⟨rfl, hb4⟩
              have B4 : Hid (Below W.heap.size W w4) := B1.out.trans (hb4.mono B1.out.size)
              clear hb4
              go_wp2
              go_ret
              exact ⟨rfl, B4.out⟩
      · have m1 : ((((n &&& onesN k : Nat) : Int)) != (n : Int)) = false := by
          rw [show k = 64 by omega, all_ones n HN.out]; simp
        go_wp2_with fail
        refine G2.out.mono ?_
        rintro e w' ⟨rfl, rfl⟩
        go_wp2_with fail
        refine G3.out.mono ?_
        rintro e w' ⟨rfl, rfl⟩
        cases hd : d with
        | false =>
          clear hd
          go_wp2_with fail
          refine (live_any _ HT1.out).mono ?_
          rintro e w4 ⟨rfl, hb4⟩
          have B4 : Hid (Below W.heap.size W w4) := B1.out.trans (hb4.mono B1.out.size)
          clear hb4
          go_wp2
          go_ret
          exact ⟨rfl, B4.out⟩
        | true =>
          have hin2 := HD.out.1 hd
          have HY2 := Lib.hid (HY.out hd)
          clear hd
          unfold InField at hin2
          obtain ⟨r0, r1, r2, r3⟩ := hin2
          by_cases hA : (p : Int) + k ≤ x2
          · have t1 : (y == y') = true := by rw [HY2.out (.inl hA)]; simp
            go_wp2_with fail
            refine (live_any _ HT1.out).mono ?_
            rintro e w4 ⟨rfl, hb4⟩
            have B4 : Hid (Below W.heap.size W w4) := B1.out.trans (hb4.mono B1.out.size)
            clear hb4
            go_wp2
            go_ret
            exact ⟨rfl, B4.out⟩
          · by_cases hB : x2 + x3 ≤ (p : Int)
            · have t1 : (y == y') = true := by rw [HY2.out (.inr hB)]; simp
              go_wp2_with fail
              refine (live_any _ HT1.out).mono ?_
              rintro e w4 ⟨rfl, hb4⟩
              have B4 : Hid (Below W.heap.size W w4) := B1.out.trans (hb4.mono B1.out.size)
              clear hb4
              go_wp2
              go_ret
              exact ⟨rfl, B4.out⟩
            · skip
              go_wp2_with fail
              refine (live_any _ HT1.out).mono ?_
              rintro e w4 ⟨rfl, hb4⟩
              have B4 : Hid (Below W.heap.size W w4) := B1.out.trans (hb4.mono B1.out.size)
              clear hb4
              go_wp2
              go_ret
              exact ⟨rfl, B4.out⟩
    · have S1 := Lib.hid (Set_no A len cap x0 x1 n (W.alloc (Obj.cells #[Value.int IntKind.i64 x0, Value.int IntKind.i64 x1, Value.int IntKind.i64 x2, Value.int IntKind.i64 x3] 39)) (by omega) hin)
      have G1 := Lib.hid (Get_no A len cap x0 x1 (W.alloc (Obj.cells #[Value.int IntKind.i64 x0, Value.int IntKind.i64 x1, Value.int IntKind.i64 x2, Value.int IntKind.i64 x3] 39)) (by omega) hin)
      clear hin
      go_enter Tryd.func6, Tryd.ntmps6
      go_wp2_with fail
      refine S1.out.mono ?_
      rintro e w1 ⟨rfl, rfl⟩
      go_wp2_with fail
      refine G1.out.mono ?_
      rintro e w1 ⟨rfl, rfl⟩
      go_wp2_with fail
      refine (live_any _ HT.out).mono ?_
      rintro e w4 ⟨rfl, hb4⟩
      go_wp2
      go_ret
      exact ⟨rfl, ((Below.refl _ _).alloc (Nat.le_refl _) _).trans (hb4.mono (by simp))⟩

theorem own : ownKnob Tryd.prog.godebug = none := by kernel_rfl
theorem laidOut : laidOutB Tryd.prog = true := by kernel_rfl
theorem contract (H : Type) (enc : TypeId × Value → H) (W : World) (base : Nat) (args : Array Value) (ds gs : List (DataW H)) (before : List MemPlace)
    (hval : ∀ (j : Nat) t v, Tryd.f6.params[j]? = some t → args[j]? = some v → Value.okWide Tryd.prog W .any base t v)
    (hW : DataW.Whole enc Tryd.prog Tryd.f6.params.toList Rows.bitsBackSpec.vars false W args.toList ds gs before) (hL : laidMetH Tryd.prog Rows.bitsBackRow.laid W) :
    Calls Tryd.prog 6 args W fun e W' => ∃ v, e = .returned v ∧ Rows.bitsBackSpec.post enc Tryd.prog Tryd.f6 false true false false W args v W' := by
  have hW' := hW
  obtain ⟨p, q, hA0, hV, rfl, hfz, hnd⟩ := hW
  have hA : DataW.TrodAll enc Tryd.prog W 0 (fun _ => true) true Tryd.f6.params.toList args.toList ds p := hA0
  rw [Tryd.params6] at hA hval
  obtain ⟨v0, vs0, d0, ds0, p0, q0, hargs, rfl, rfl, h0, r0⟩ := trodAll_cons hA
  obtain ⟨v1, vs1, d1, ds1, p1, q1, rfl, rfl, rfl, h1, r1⟩ := trodAll_cons r0
  obtain ⟨v2, vs2, d2, ds2, p2, q2, rfl, rfl, rfl, h2, r2⟩ := trodAll_cons r1
  obtain ⟨rfl, rfl, rfl⟩ := trodAll_nil r2
  obtain rfl : args = #[v0, v1, v2] := by cases args; simp_all
  obtain ⟨rfl, rfl⟩ := trodVars_none hV
  have k0 := h0
  have lt0 : ∀ x ∈ p0, x.block < W.heap.size := by obtain ⟨m, hm⟩ := k0; exact DataW.trod_lt m _ _ _ hm
  obtain ⟨a0, len0, cap0, z0, rfl, w0⟩ := open_slice_int Tryd.underlying22 Tryd.underlying24 (by kernel_rfl) (hval 0 22 v0 rfl rfl) h0
  have k1 := h1
  have lt1 : ∀ x ∈ p1, x.block < W.heap.size := by obtain ⟨m, hm⟩ := k1; exact DataW.trod_lt m _ _ _ hm
  obtain ⟨l1, rfl, hl1, wl1⟩ := open_arr_int Tryd.underlying39 Tryd.underlying3 (by kernel_rfl) (by kernel_rfl) (hval 1 39 v1 rfl rfl) h1
  obtain ⟨x1_0, x1_1, x1_2, x1_3, rfl⟩ : ∃ x1_0 x1_1 x1_2 x1_3, l1 = [x1_0, x1_1, x1_2, x1_3] := by
    match l1, hl1 with
    | [x1_0, x1_1, x1_2, x1_3], _ => exact ⟨x1_0, x1_1, x1_2, x1_3, rfl⟩
  obtain ⟨a2, rfl, rfl, rfl, w2⟩ := open_int Tryd.underlying24 (hval 2 24 v2 rfl rfl) h2
  clear hA0
  refine (walk a0 len0 cap0 z0 x1_0 x1_1 x1_2 x1_3 a2 w0 (wl1 x1_0 (by simp)) (wl1 x1_1 (by simp)) (wl1 x1_2 (by simp)) (wl1 x1_3 (by simp)) w2 (tabW_of hL)).mono fun e W' ⟨he, bel⟩ => ?_
  subst he
  exact ⟨_, rfl, _, _, _, [], _, [], hW', trodAll_mk1 (shut_bool Tryd.underlying4 _), (trodAll_cons_mk (Below.trod laidOut (by kernel_rfl) (of_decide_eq_true (by kernel_rfl)) k0 bel lt0) (trodAll_cons_mk (Below.trod laidOut (by kernel_rfl) (of_decide_eq_true (by kernel_rfl)) k1 bel lt1) (trodAll_cons_mk (shut_int Tryd.underlying24 w2) trodAll_mk0))), rfl, bel.frame _, fun h => by cases h⟩

theorem laid_met (os : Os) : laidMet Tryd.prog Rows.bitsBackRow.laid ((laidWorld os).forCall (fun _ _ => 0) ⟨#[], #[.slice none 0 0, .agg #[.int .i64 0, .int .i64 0, .int .i64 0, .int .i64 0], .int .u64 0], []⟩).memory :=
  laidMet_of_run' 8 (by kernel_rfl) (by kernel_rfl)
theorem reads (os : Os) {H : Type} (enc : TypeId × Value → H) : ∃ places, DataW.whole enc Tryd.prog ((laidWorld os).forCall (fun _ _ => 0) ⟨#[], #[.slice none 0 0, .agg #[.int .i64 0, .int .i64 0, .int .i64 0, .int .i64 0], .int .u64 0], []⟩).memory Tryd.f6.params.toList Rows.bitsBackSpec.vars false (#[.slice none 0 0, .agg #[.int .i64 0, .int .i64 0, .int .i64 0, .int .i64 0], .int .u64 0] : Array Value).toList 8 = some ([.nil, .agg [.lit (.int .i64 0), .lit (.int .i64 0), .lit (.int .i64 0), .lit (.int .i64 0)], .lit (.int .u64 0)], [], places) :=
  ⟨[], by kernel_rfl⟩

set_option maxRecDepth 100000 in
theorem lifted (os : Os) (started : os.Started) (H : Type) (enc : TypeId × Value → H) (F : Stop.Interp) :
    ReturnsInHanded {} Tryd.checked os 6 .any ((OpenSpec.ofChange Rows.bitsBackSpec).preRow enc Tryd.prog Tryd.f6 Rows.bitsBackRow.domain false Rows.bitsBackRow.laid) (((OpenSpec.ofChange Rows.bitsBackSpec).at F).post enc Tryd.prog Tryd.f6 false true false false) := by
  obtain ⟨places, hx⟩ := reads os enc
  refine returnsInHanded_of_row (C := Tryd.checked) (s := OpenSpec.ofChange Rows.bitsBackSpec) own started (by kernel_rfl) Tryd.func6
    (witness_row_at (enc := enc) (C := Tryd.checked) false (laidWorld os) #[.slice none 0 0, .agg #[.int .i64 0, .int .i64 0, .int .i64 0, .int .i64 0], .int .u64 0] rfl (by kernel_rfl) (by kernel_rfl) (by kernel_rfl)
      (OpenSpec.preRow_of_cond 8 hx (by kernel_rfl) (fun k hk => by cases hk) (by kernel_rfl) (laid_met os))) ?_
  intro W base args ds gs before hval hW _ _ _ hL _ _
  exact contract H enc W base args ds gs before hval hW hL

theorem said : Rows.BitsBackSaid :=
  OpenClaim.holds_of_cond 6 Tryd.f6 rfl rfl rfl rfl rfl rfl rfl ⟨rfl, rfl, rfl, rfl, rfl⟩ rfl rfl rfl rfl rfl (by kernel_rfl) Tryd.func6 (by kernel_rfl)
    (of_decide_eq_true (by kernel_rfl)) (by unfold Func.isWrapper; first | (rw [if_pos (by decide +kernel)]; kernel_rfl) | (rw [if_neg (by decide +kernel)]; exact ⟨rfl, rfl⟩))
    (fun os started H enc _ F => by rw [OpenClaim.pre_eq_preRow]; exact lifted os started H enc F)
theorem plain (f : FuncId) (fn : Func) (hf : Tryd.pinned.checked.prog.funcNamed Rows.bitsBackRow.func = some f) (hfn : Tryd.pinned.checked.prog.funcs[f]? = some fn) :
    false = Tryd.pinned.checked.prog.looks [] ∧ ∀ (j : Nat) t, fn.params[j]? = some t → Tryd.pinned.checked.prog.wantsStandIn t = false := by
  obtain rfl : f = 6 := Option.some.inj ((show Tryd.prog.funcNamed Rows.bitsBackRow.func = some 6 by kernel_rfl).symm.trans hf) |>.symm
  obtain rfl : fn = Tryd.f6 := (Option.some.inj (Tryd.func6.symm.trans hfn)).symm
  refine ⟨by kernel_rfl, fun j t ht => ?_⟩
  rw [Tryd.params6] at ht
  have hm := Array.mem_of_getElem? ht
  simp only [List.mem_toArray, List.mem_cons, List.not_mem_nil, or_false] at hm
  rcases hm with rfl | rfl | rfl
  · exact (show Tryd.prog.wantsStandIn 22 = false by kernel_rfl)
  · exact (show Tryd.prog.wantsStandIn 39 = false by kernel_rfl)
  · exact (show Tryd.prog.wantsStandIn 24 = false by kernel_rfl)
theorem card : Rows.BitsBackCardSaid :=
  Claim7.holds_tied_plain_at .later [] _ _ _ _ said (fun _ h => by cases h) (by kernel_rfl) (fun _ h => by cases h) bitsBack_row_tie rfl ⟨rfl, rfl⟩ (by kernel_rfl) rfl plain (by kernel_rfl)
end Go.Proofs.YtefpgpehncllnaaDoor.bitsBack
namespace Go.Proofs.YtefpgpehncllnaaDoor
theorem bitsBack_proved : Rows.BitsBackCardSaid := bitsBack.card
end Go.Proofs.YtefpgpehncllnaaDoor

