/- For all words and every place the law BitsOnes returns true: going by bits.Next all bits that are 1 are met, rising, as many as Count tells; a bit that is set makes it one more, unless it was (of at most 20 words, else only the document's examples are asked). The card's tie: the table of math/bits holds what its initialiser lays. -/
import Derived.Test.YtefpgpehncllnaaDoorBitsTab
namespace Go.Proofs.YtefpgpehncllnaaDoor.bitsOnes
open Go.ChangeShapes Go.WideShapes Go.ChangeAt Go.RowKit
set_option linter.unusedVariables false

theorem next_spec (ns : List Nat) : ∀ (k i : Nat), (∃ t, nextFrom ns i k = (t, true) ∧ i ≤ t ∧ t < i + k ∧ bitAt ns t = true ∧ cnt ns t = cnt ns i) ∨ (nextFrom ns i k = (0, false) ∧ cnt ns (i + k) = cnt ns i) := by
  intro k
  induction k with
  | zero => intro i; exact .inr ⟨rfl, rfl⟩
  | succ k ih =>
    intro i
    cases hb : bitAt ns i with
    | true => exact .inl ⟨i, by simp [nextFrom, hb], Nat.le_refl _, by omega, hb, rfl⟩
    | false =>
      have e : cnt ns (i + 1) = cnt ns i := by simp [cnt, hb]
      rcases ih (i + 1) with ⟨t, h1, h2, h3, h4, h5⟩ | ⟨h1, h2⟩
      · exact .inl ⟨t, by simp [nextFrom, hb, h1], by omega, by omega, h4, by rw [h5, e]⟩
      · exact .inr ⟨by simp [nextFrom, hb, h1], by rw [show i + (k + 1) = i + 1 + k by omega, h2, e]⟩
/-- From f on: a next one, and none in between; or none. -/
theorem next_ways (ns : List Nat) (f : Nat) (hf : f ≤ 64 * ns.length) : (∃ t, nextN ns f = (t, true) ∧ f ≤ t ∧ t < 64 * ns.length ∧ bitAt ns t = true ∧ cnt ns t = cnt ns f) ∨ (nextN ns f = (0, false) ∧ cnt ns (64 * ns.length) = cnt ns f) := by
  unfold nextN
  rcases next_spec ns (64 * ns.length - f) f with ⟨t, h1, h2, h3, h4, h5⟩ | ⟨h1, h2⟩
  · exact .inl ⟨t, h1, h2, by omega, h4, h5⟩
  · exact .inr ⟨h1, by rw [show f + (64 * ns.length - f) = 64 * ns.length by omega] at h2; exact h2⟩
theorem fld_one (ns : List Nat) (t : Nat) : fld ns t 1 = (bitAt ns t).toNat := by simp [fld, mkBits]
theorem cnt_set (ns : List Nat) (i : Nat) (hi : i < 64 * ns.length) : ∀ k, k ≤ 64 * ns.length → cnt (setW ns i 1 1) k + (if i < k then (bitAt ns i).toNat else 0) = cnt ns k + (if i < k then 1 else 0) := by
  intro k
  induction k with
  | zero => intro _; simp [cnt]
  | succ k ih =>
    intro hk
    have h := ih (by omega)
    simp only [cnt]
    rw [setW_bit _ _ _ _ _ (by omega)]
    by_cases e : k = i
    · subst e
      rw [if_pos (by omega), if_pos (by omega), if_pos (by omega)]
      rw [if_neg (by omega), if_neg (by omega)] at h
      simp
      omega
    · rw [if_neg (show ¬ (i ≤ k ∧ k < i + 1) by omega)]
      by_cases h2 : i < k
      · rw [if_pos h2, if_pos h2] at h
        rw [if_pos (by omega), if_pos (by omega)]
        omega
      · rw [if_neg h2, if_neg h2] at h
        rw [if_neg (by omega), if_neg (by omega)]
        omega

theorem ret_pair {a : Nat × Bool} {t : Nat} {b : Bool} (h : a = (t, b)) : (Value.int .i64 (a.1 : Nat)) = .int .i64 (t : Int) ∧ Value.bool a.2 = .bool b := by rw [h]; exact ⟨rfl, rfl⟩

set_option maxRecDepth 100000 in
set_option maxHeartbeats 2000000 in
theorem walk (A : Option Addr) (len cap : Nat) (zs : List Int) (i : Int) {W : World} (hw : IsInts .u64 W A len cap zs) (wp : (Lit.int .i64 i).wf = true) (ht : TabW W) :
    Calls Tryd.prog 8 #[.slice A len cap, .int .i64 i] W fun e w' => e = .returned (.bool true) ∧ Below W.heap.size W w' := by
  obtain ⟨ns, hW, hc, hnil, hlm⟩ := words_of hw
  have HT := Lib.hid ht
  have HW := Lib.hid hW
  have HL := Lib.hid hW.1
  clear hw ht hW wp hlm hnil
  by_cases h20 : 20 < len
  · go_enter Tryd.func8, Tryd.ntmps8
    go_wp2_with (first | (go_at_call 10; refine (live_any _ HT.out).mono ?_; rintro e w1 ⟨rfl, hbl⟩))
    go_ret
    exact ⟨rfl, hbl⟩
  · go_enter Tryd.func8, Tryd.ntmps8
    go_wp2_with fail
    refine (Next_nat A len cap ns 0 W (by omega) hc HW.out HT.out (by omega)).mono ?_
    rintro e w' ⟨rfl, rfl⟩
    go_wp2_with fail
    go_loop [5, 6, 7, 8] (fun n l k b => ∃ f : Nat, f ≤ 64 * len ∧ n = .int .i64 (cnt ns f : Nat) ∧ l = .int .i64 ((f : Int) - 1) ∧ k = .int .i64 ((nextN ns f).1 : Nat) ∧ b = .bool (nextN ns f).2) (fun _ l _ _ => 64 * len - (intOf l + 1).toNat)
    case atStart => exact ⟨0, Nat.zero_le _, rfl, rfl, rfl, rfl⟩
    case round =>
      obtain ⟨f, hf, rfl, rfl, hk, hb⟩ := hrel
      have hcl := cnt_le ns f
      rcases next_ways ns f (by rw [HL.out]; exact hf) with ⟨t, e1, e2, e3, e4, e5⟩ | ⟨e1, e2⟩
      · obtain ⟨p1, p2⟩ := ret_pair e1
        rw [p1] at hk
        rw [p2] at hb
        subst hk
        subst hb
        have e3 : t < 64 * len := by rw [HL.out] at e3; exact e3
        have G := Lib.hid (Get_yes A len cap ns t 1 W (by omega) hc HW.out (by omega) (by omega))
        rw [fld_one, e4] at G
        have n1 := Next_nat A len cap ns (t + 1) W (by omega) hc HW.out HT.out (by omega)
        rw [show ((t + 1 : Nat) : Int) = (t : Int) + 1 by omega] at n1
        have N := Lib.hid n1
        clear n1
        have E := Lib.hid (show cnt ns (t + 1) = cnt ns f + 1 by simp only [cnt]; rw [e4, e5]; rfl)
        clear e1 e4 e5 p1 p2
        go_wp2_with fail
        refine G.out.mono ?_
        rintro e w' ⟨rfl, rfl⟩
        go_wp2_with fail
        refine N.out.mono ?_
        rintro e w' ⟨rfl, rfl⟩
        go_wp2
        go_round
        case rel => exact ⟨t + 1, by omega, val_int (by rw [E.out]; omega), val_int (by omega), rfl, rfl⟩
        case measure => simp [intOf]; omega
      · obtain ⟨p1, p2⟩ := ret_pair e1
        rw [p1] at hk
        rw [p2] at hb
        subst hk
        subst hb
        have C := Lib.hid (Count_any A len cap ns W (by omega) hc HW.out)
        have e2' : cnt ns (64 * len) = cnt ns f := by rw [← HL.out]; exact e2
        rw [e2'] at C
        have HE := Lib.hid e2'
        clear e1 p1 p2 e2 e2'
        go_wp2_with fail
        refine C.out.mono ?_
        rintro e w' ⟨rfl, rfl⟩
        by_cases hin : InField len i 1
        · have hin' := hin
          unfold InField at hin'
          obtain ⟨q0, q1, q2, q3⟩ := hin'
          obtain ⟨i, rfl⟩ := Int.eq_ofNat_of_zero_le q0
          have q3 : i < 64 * len := by omega
          clear q0 q1 q2 hin
          have G := Lib.hid (Get_yes A len cap ns i 1 W (by omega) hc HW.out (by omega) (by omega))
          rw [fld_one] at G
          have S := Lib.hid (Set_yes A len cap ns i 1 1 W (by omega) HW.out (by omega) (by omega) (by decide))
          have hs := cnt_set ns i (by rw [HL.out]; exact q3) (64 * ns.length) (Nat.le_refl _)
          rw [HL.out, if_pos q3, if_pos q3, HE.out] at hs
          have hbl := Bool.toNat_le (bitAt ns i)
          go_wp2_with fail
          refine G.out.mono ?_
          rintro e w' ⟨rfl, rfl⟩
          go_wp2_with fail
          refine S.out.mono ?_
          rintro e w1 ⟨A1, c1, rfl, hf1, hb1⟩
          have B1 := Lib.hid hb1
          have HT1 := Lib.hid (HT.out.below hb1)
          have C1 := Lib.hid (Count_any A1 len c1 _ w1 (by omega) hf1.1 hf1.words)
          obtain ⟨u, hu⟩ : ∃ u, u = cnt (setW ns i 1 1) (64 * len) := ⟨_, rfl⟩
          rw [← hu] at C1 hs
          generalize (bitAt ns i).toNat = b at *
          have t1 : ((u : Int) == (cnt ns f : Int) + 1 - (b : Int)) = true := by simp; omega
          clear hf1 hb1 hs hu
          go_wp2_with fail
          refine C1.out.mono ?_
          rintro e w' ⟨rfl, rfl⟩
          go_wp2_with fail
          refine (live_any _ HT1.out).mono ?_
          rintro e w4 ⟨rfl, hb4⟩
          have B4 : Hid (Below W.heap.size W w4) := B1.out.trans (hb4.mono B1.out.size)
          clear hb4
          go_wp2
          go_ret
          exact ⟨rfl, B4.out⟩
        · have G := Lib.hid (Get_no A len cap i 1 W (by omega) hin)
          have S := Lib.hid (Set_no A len cap i 1 1 W (by omega) hin)
          clear hin
          go_wp2_with fail
          refine G.out.mono ?_
          rintro e w' ⟨rfl, rfl⟩
          go_wp2_with fail
          refine S.out.mono ?_
          rintro e w' ⟨rfl, rfl⟩
          go_wp2_with fail
          refine (live_any _ HT.out).mono ?_
          rintro e w4 ⟨rfl, hb4⟩
          go_wp2
          go_ret
          exact ⟨rfl, hb4⟩

theorem own : ownKnob Tryd.prog.godebug = none := by kernel_rfl
theorem laidOut : laidOutB Tryd.prog = true := by kernel_rfl
theorem contract (H : Type) (enc : TypeId × Value → H) (W : World) (base : Nat) (args : Array Value) (ds gs : List (DataW H)) (before : List MemPlace)
    (hval : ∀ (j : Nat) t v, Tryd.f8.params[j]? = some t → args[j]? = some v → Value.okWide Tryd.prog W .any base t v)
    (hW : DataW.Whole enc Tryd.prog Tryd.f8.params.toList Rows.bitsOnesSpec.vars false W args.toList ds gs before) (hL : laidMetH Tryd.prog Rows.bitsOnesRow.laid W) :
    Calls Tryd.prog 8 args W fun e W' => ∃ v, e = .returned v ∧ Rows.bitsOnesSpec.post enc Tryd.prog Tryd.f8 false true false false W args v W' := by
  have hW' := hW
  obtain ⟨p, q, hA0, hV, rfl, hfz, hnd⟩ := hW
  have hA : DataW.TrodAll enc Tryd.prog W 0 (fun _ => true) true Tryd.f8.params.toList args.toList ds p := hA0
  rw [Tryd.params8] at hA hval
  obtain ⟨v0, vs0, d0, ds0, p0, q0, hargs, rfl, rfl, h0, r0⟩ := trodAll_cons hA
  obtain ⟨v1, vs1, d1, ds1, p1, q1, rfl, rfl, rfl, h1, r1⟩ := trodAll_cons r0
  obtain ⟨rfl, rfl, rfl⟩ := trodAll_nil r1
  obtain rfl : args = #[v0, v1] := by cases args; simp_all
  obtain ⟨rfl, rfl⟩ := trodVars_none hV
  have k0 := h0
  have lt0 : ∀ x ∈ p0, x.block < W.heap.size := by obtain ⟨m, hm⟩ := k0; exact DataW.trod_lt m _ _ _ hm
  obtain ⟨a0, len0, cap0, z0, rfl, w0⟩ := open_slice_int Tryd.underlying22 Tryd.underlying24 (by kernel_rfl) (hval 0 22 v0 rfl rfl) h0
  obtain ⟨a1, rfl, rfl, rfl, w1⟩ := open_int Tryd.underlying3 (hval 1 3 v1 rfl rfl) h1
  clear hA0
  refine (walk a0 len0 cap0 z0 a1 w0 w1 (tabW_of hL)).mono fun e W' ⟨he, bel⟩ => ?_
  subst he
  exact ⟨_, rfl, _, _, _, [], _, [], hW', trodAll_mk1 (shut_bool Tryd.underlying4 _), (trodAll_cons_mk (Below.trod laidOut (by kernel_rfl) (of_decide_eq_true (by kernel_rfl)) k0 bel lt0) (trodAll_cons_mk (shut_int Tryd.underlying3 w1) trodAll_mk0)), rfl, bel.frame _, fun h => by cases h⟩

theorem laid_met (os : Os) : laidMet Tryd.prog Rows.bitsOnesRow.laid ((laidWorld os).forCall (fun _ _ => 0) ⟨#[], #[.slice none 0 0, .int .i64 0], []⟩).memory :=
  laidMet_of_run' 8 (by kernel_rfl) (by kernel_rfl)
theorem reads (os : Os) {H : Type} (enc : TypeId × Value → H) : ∃ places, DataW.whole enc Tryd.prog ((laidWorld os).forCall (fun _ _ => 0) ⟨#[], #[.slice none 0 0, .int .i64 0], []⟩).memory Tryd.f8.params.toList Rows.bitsOnesSpec.vars false (#[.slice none 0 0, .int .i64 0] : Array Value).toList 8 = some ([.nil, .lit (.int .i64 0)], [], places) :=
  ⟨[], by kernel_rfl⟩

set_option maxRecDepth 100000 in
theorem lifted (os : Os) (started : os.Started) (H : Type) (enc : TypeId × Value → H) (F : Stop.Interp) :
    ReturnsInHanded {} Tryd.checked os 8 .any ((OpenSpec.ofChange Rows.bitsOnesSpec).preRow enc Tryd.prog Tryd.f8 Rows.bitsOnesRow.domain false Rows.bitsOnesRow.laid) (((OpenSpec.ofChange Rows.bitsOnesSpec).at F).post enc Tryd.prog Tryd.f8 false true false false) := by
  obtain ⟨places, hx⟩ := reads os enc
  refine returnsInHanded_of_row (C := Tryd.checked) (s := OpenSpec.ofChange Rows.bitsOnesSpec) own started (by kernel_rfl) Tryd.func8
    (witness_row_at (enc := enc) (C := Tryd.checked) false (laidWorld os) #[.slice none 0 0, .int .i64 0] rfl (by kernel_rfl) (by kernel_rfl) (by kernel_rfl)
      (OpenSpec.preRow_of_cond 8 hx (by kernel_rfl) (fun k hk => by cases hk) (by kernel_rfl) (laid_met os))) ?_
  intro W base args ds gs before hval hW _ _ _ hL _ _
  exact contract H enc W base args ds gs before hval hW hL

theorem said : Rows.BitsOnesSaid :=
  OpenClaim.holds_of_cond 8 Tryd.f8 rfl rfl rfl rfl rfl rfl rfl ⟨rfl, rfl, rfl, rfl, rfl⟩ rfl rfl rfl rfl rfl (by kernel_rfl) Tryd.func8 (by kernel_rfl)
    (of_decide_eq_true (by kernel_rfl)) (by unfold Func.isWrapper; first | (rw [if_pos (by decide +kernel)]; kernel_rfl) | (rw [if_neg (by decide +kernel)]; exact ⟨rfl, rfl⟩))
    (fun os started H enc _ F => by rw [OpenClaim.pre_eq_preRow]; exact lifted os started H enc F)
theorem plain (f : FuncId) (fn : Func) (hf : Tryd.pinned.checked.prog.funcNamed Rows.bitsOnesRow.func = some f) (hfn : Tryd.pinned.checked.prog.funcs[f]? = some fn) :
    false = Tryd.pinned.checked.prog.looks [] ∧ ∀ (j : Nat) t, fn.params[j]? = some t → Tryd.pinned.checked.prog.wantsStandIn t = false := by
  obtain rfl : f = 8 := Option.some.inj ((show Tryd.prog.funcNamed Rows.bitsOnesRow.func = some 8 by kernel_rfl).symm.trans hf) |>.symm
  obtain rfl : fn = Tryd.f8 := (Option.some.inj (Tryd.func8.symm.trans hfn)).symm
  refine ⟨by kernel_rfl, fun j t ht => ?_⟩
  rw [Tryd.params8] at ht
  have hm := Array.mem_of_getElem? ht
  simp only [List.mem_toArray, List.mem_cons, List.not_mem_nil, or_false] at hm
  rcases hm with rfl | rfl
  · exact (show Tryd.prog.wantsStandIn 22 = false by kernel_rfl)
  · exact (show Tryd.prog.wantsStandIn 3 = false by kernel_rfl)
theorem card : Rows.BitsOnesCardSaid :=
  Claim7.holds_tied_plain_at .later [] _ _ _ _ said (fun _ h => by cases h) (by kernel_rfl) (fun _ h => by cases h) bitsOnes_row_tie rfl ⟨rfl, rfl⟩ (by kernel_rfl) rfl plain (by kernel_rfl)
end Go.Proofs.YtefpgpehncllnaaDoor.bitsOnes
namespace Go.Proofs.YtefpgpehncllnaaDoor
theorem bitsOnes_proved : Rows.BitsOnesCardSaid := bitsOnes.card
end Go.Proofs.YtefpgpehncllnaaDoor

