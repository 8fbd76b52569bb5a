/- For every policy the law PolicySlots returns true: a policy's slots fill its span. The card's tie: the table of widths holds what its initialiser lays. -/
import Derived.Test.YtkdmebgoobenkaaDoorPolEq
import Derived.Deep.RegionHeld3
namespace Go.Proofs.YtkdmebgoobenkaaDoor.policySlots
open Go.ChangeShapes Go.WideShapes Go.ChangeAt Go.RowKit
set_option linter.unusedVariables false

theorem wrap_i {x : Int} (h1 : 0 ≤ x) (h2 : x < 9223372036854775808) : IntKind.i64.wrap x = x := by
  simp [IntKind.wrap, IntKind.signed, IntKind.bits]; omega
set_option maxRecDepth 100000 in
set_option maxHeartbeats 8000000 in
theorem walk (k l v b : Int) (h0 : (Lit.int .i64 k).wf = true) (h1 : (Lit.int .i64 l).wf = true) (h2 : (Lit.int .i64 v).wf = true) (h3 : (Lit.int .i64 b).wf = true) (W : World) (ht : TabW W) :
    Calls Tryd.prog 6 #[.agg #[.int .i64 k, .int .i64 l, .int .i64 v, .int .i64 b]] W fun e w' => e = .returned (.bool true) ∧ Below W.heap.size W w' := by
  clear h0 h1 h2 h3
  have A0 := Lib.hid (PolAt.made W k l v b 23)
  have T0 := Lib.hid (ht.alloc (.cells #[.int .i64 k, .int .i64 l, .int .i64 v, .int .i64 b] 23))
  clear ht
  by_cases h : MayP k l v b
  · have C1 := Lib.hid (fun u => Check_yes k l v b u h)
    have S1 := Lib.hid (fun u => Span_yes k l v b u h)
    have L1 := Lib.hid (fun u => Slot_yes k l v b u h)
    obtain ⟨h1, h2, h3, h4, h5, h6, h7, h8, h9⟩ := h
    by_cases hk : k = 3
    · obtain ⟨a, c, d⟩ := h9 hk
      have es : slotI k v b = v / b := by unfold slotI; rw [if_pos hk]
      rw [es] at L1
      have tk : (k == 3) = true := by simp [hk]
      have m : b * (v / b) = v := by have := Int.mul_ediv_add_emod v b; omega
      have s1 : 1 ≤ v / b := by
        have q1 : 0 ≤ v / b := Int.ediv_nonneg (by omega) (by omega)
        rcases Int.lt_or_eq_of_le q1 with q | q
        · omega
        · rw [← q] at m; simp at m; omega
      have m2 : IntKind.i64.wrap (b * (v / b)) = v := by rw [m]; exact wrap_i (by omega) (by omega)
      clear es m h7 h8 h9 d hk
      generalize v / b = sl at *
      go_enter Tryd.func6, Tryd.ntmps6
      go_wp2_with fail
      refine (C1.out _).mono ?_; rintro e w1 ⟨rfl, hb⟩
      have hp := A0.out.step hb
      have z0 := hp.d0
      have z1 := hp.d1
      have z2 := hp.d2
      have z3 := hp.d3
      have HP := Lib.hid hp.drew
      have T1 := Lib.hid (T0.out.step hb)
      have HT := Lib.hid (show TabW w1.drew from ⟨T1.out.sz, T1.out.t0, T1.out.t1, T1.out.t2, T1.out.t3⟩)
      clear hb hp A0 T0 T1
      go_wp2_with fail
      go_region_held3 (fun w' => w'.cell? ⟨W.heap.size, 0, none⟩ = some (.int .i64 k) ∧ w'.cell? ⟨W.heap.size, 1, none⟩ = some (.int .i64 l) ∧ w'.cell? ⟨W.heap.size, 2, none⟩ = some (.int .i64 v) ∧ w'.cell? ⟨W.heap.size, 3, none⟩ = some (.int .i64 b)) (first | exact ⟨z0, z1, z2, z3⟩ | exact ⟨a0, a1, a2, a3⟩ | exact ⟨c0, c1, c2, c3⟩ | exact ⟨d0, d1, d2, d3⟩ | exact ⟨e0, e1, e2, e3⟩ | exact ⟨HP6.out.d0, HP6.out.d1, HP6.out.d2, HP6.out.d3⟩ | go_keep) (first | (go_at_call 14; refine (L1.out _).mono ?_; rintro e wa ⟨rfl, hb0⟩; have hp0 := HP.out.step hb0; have HP0 := Lib.hid hp0; have HT0 := Lib.hid (HT.out.step hb0); have a0 := hp0.d0; have a1 := hp0.d1; have a2 := hp0.d2; have a3 := hp0.d3; clear hb0 hp0) | (go_at_call 14; refine (L1.out _).mono ?_; rintro e wc ⟨rfl, hb1⟩; have hp1 := HP0.out.step hb1; have HP1 := Lib.hid hp1; have HT1 := Lib.hid (HT0.out.step hb1); have c0 := hp1.d0; have c1 := hp1.d1; have c2 := hp1.d2; have c3 := hp1.d3; clear hb1 hp1) | (go_at_call 12; refine (S1.out _).mono ?_; rintro e wd ⟨rfl, hb2⟩; have hp2 := HP1.out.step hb2; have HP2 := Lib.hid hp2; have HT2 := Lib.hid (HT1.out.step hb2); have d0 := hp2.d0; have d1 := hp2.d1; have d2 := hp2.d2; have d3 := hp2.d3; clear hb2 hp2) | (go_at_call 12; refine (S1.out _).mono ?_; rintro e we ⟨rfl, hb3⟩; have hp3 := HP2.out.step hb3; have HP3 := Lib.hid hp3; have HT3 := Lib.hid (HT2.out.step hb3); have e0 := hp3.d0; have e1 := hp3.d1; have e2 := hp3.d2; have e3 := hp3.d3; clear hb3 hp3) | (go_at_call 18; refine (live_any _ HT3.out).mono ?_; rintro e wg ⟨rfl, hbl⟩; have HP6 := Lib.hid (HP3.out.step hbl); clear hbl))
      all_goals (go_wp2_with fail; go_ret; exact ⟨rfl, HP6.out.be⟩)
    · have es : slotI k v b = v := by unfold slotI; rw [if_neg hk]
      rw [es] at L1
      have tk : (k == 3) = false := by simp [hk]
      have m2 : IntKind.i64.wrap v = v := wrap_i (by omega) (by omega)
      clear es h7 h8 h9 hk
      go_enter Tryd.func6, Tryd.ntmps6
      go_wp2_with fail
      refine (C1.out _).mono ?_; rintro e w1 ⟨rfl, hb⟩
      have hp := A0.out.step hb
      have z0 := hp.d0
      have z1 := hp.d1
      have z2 := hp.d2
      have z3 := hp.d3
      have HP := Lib.hid hp.drew
      have T1 := Lib.hid (T0.out.step hb)
      have HT := Lib.hid (show TabW w1.drew from ⟨T1.out.sz, T1.out.t0, T1.out.t1, T1.out.t2, T1.out.t3⟩)
      clear hb hp A0 T0 T1
      go_wp2_with fail
      go_region_held3 (fun w' => w'.cell? ⟨W.heap.size, 0, none⟩ = some (.int .i64 k) ∧ w'.cell? ⟨W.heap.size, 1, none⟩ = some (.int .i64 l) ∧ w'.cell? ⟨W.heap.size, 2, none⟩ = some (.int .i64 v) ∧ w'.cell? ⟨W.heap.size, 3, none⟩ = some (.int .i64 b)) (first | exact ⟨z0, z1, z2, z3⟩ | exact ⟨a0, a1, a2, a3⟩ | exact ⟨c0, c1, c2, c3⟩ | exact ⟨d0, d1, d2, d3⟩ | exact ⟨e0, e1, e2, e3⟩ | exact ⟨HP6.out.d0, HP6.out.d1, HP6.out.d2, HP6.out.d3⟩ | go_keep) (first | (go_at_call 14; refine (L1.out _).mono ?_; rintro e wa ⟨rfl, hb0⟩; have hp0 := HP.out.step hb0; have HP0 := Lib.hid hp0; have HT0 := Lib.hid (HT.out.step hb0); have a0 := hp0.d0; have a1 := hp0.d1; have a2 := hp0.d2; have a3 := hp0.d3; clear hb0 hp0) | (go_at_call 14; refine (L1.out _).mono ?_; rintro e wc ⟨rfl, hb1⟩; have hp1 := HP0.out.step hb1; have HP1 := Lib.hid hp1; have HT1 := Lib.hid (HT0.out.step hb1); have c0 := hp1.d0; have c1 := hp1.d1; have c2 := hp1.d2; have c3 := hp1.d3; clear hb1 hp1) | (go_at_call 12; refine (S1.out _).mono ?_; rintro e wd ⟨rfl, hb2⟩; have hp2 := HP1.out.step hb2; have HP2 := Lib.hid hp2; have HT2 := Lib.hid (HT1.out.step hb2); have d0 := hp2.d0; have d1 := hp2.d1; have d2 := hp2.d2; have d3 := hp2.d3; clear hb2 hp2) | (go_at_call 12; refine (S1.out _).mono ?_; rintro e we ⟨rfl, hb3⟩; have hp3 := HP2.out.step hb3; have HP3 := Lib.hid hp3; have HT3 := Lib.hid (HT2.out.step hb3); have e0 := hp3.d0; have e1 := hp3.d1; have e2 := hp3.d2; have e3 := hp3.d3; clear hb3 hp3) | (go_at_call 18; refine (live_any _ HT3.out).mono ?_; rintro e wg ⟨rfl, hbl⟩; have HP6 := Lib.hid (HP3.out.step hbl); clear hbl))
      all_goals (go_wp2_with fail; go_ret; exact ⟨rfl, HP6.out.be⟩)
  · have C1 := Lib.hid (fun u => Check_no k l v b u h)
    have S1 := Lib.hid (fun u => Span_no k l v b u h)
    have L1 := Lib.hid (fun u => Slot_no k l v b u h)
    clear h
    go_enter Tryd.func6, Tryd.ntmps6
    go_wp2_with fail
    refine (C1.out _).mono ?_; rintro e w1 ⟨rfl, hb⟩
    have A1 := Lib.hid (A0.out.step hb)
    have T1 := Lib.hid (T0.out.step hb)
    have z0 := A1.out.d0
    have z1 := A1.out.d1
    have z2 := A1.out.d2
    have z3 := A1.out.d3
    clear hb A0 T0
    go_wp2_with fail
    refine (S1.out _).mono ?_; rintro e w2 ⟨rfl, hb⟩
    clear z0 z1 z2 z3
    have A2 := Lib.hid (A1.out.step hb)
    have T2 := Lib.hid (T1.out.step hb)
    have z0 := A2.out.d0
    have z1 := A2.out.d1
    have z2 := A2.out.d2
    have z3 := A2.out.d3
    clear hb A1 T1
    go_wp2_with fail
    refine (L1.out _).mono ?_; rintro e w3 ⟨rfl, hb⟩
    have A3 := Lib.hid (A2.out.step hb)
    have T3 := Lib.hid (T2.out.step hb)
    clear hb A2 T2 z0 z1 z2 z3
    go_wp2_with fail
    refine (live_any _ T3.out).mono ?_; rintro e w4 ⟨rfl, hb⟩
    have A4 := Lib.hid (A3.out.step hb)
    clear hb
    go_wp2_with fail
    go_ret
    exact ⟨rfl, A4.out.be⟩

theorem own : ownKnob Tryd.prog.godebug = none := by kernel_rfl
theorem laidOut : laidOutB Tryd.prog = true := by kernel_rfl
theorem contract (H : Type) (enc : TypeId × Value → H) (W : World) (base : Nat) (args : Array Value) (ds gs : List (DataW H)) (before : List MemPlace)
    (hval : ∀ (j : Nat) t v, Tryd.f6.params[j]? = some t → args[j]? = some v → Value.okWide Tryd.prog W .any base t v)
    (hW : DataW.Whole enc Tryd.prog Tryd.f6.params.toList Rows.policySlotsSpec.vars false W args.toList ds gs before) (hL : laidMetH Tryd.prog Rows.policySlotsRow.laid W) :
    Calls Tryd.prog 6 args W fun e W' => ∃ v, e = .returned v ∧ Rows.policySlotsSpec.post enc Tryd.prog Tryd.f6 false true false false W args v W' := by
  have hW' := hW
  obtain ⟨p, q, hA0, hV, rfl, hfz, hnd⟩ := hW
  have hA : DataW.TrodAll enc Tryd.prog W 0 (fun _ => true) true Tryd.f6.params.toList args.toList ds p := hA0
  rw [Tryd.params6] at hA hval
  obtain ⟨v0, vs0, d0, ds0, p0, q0, hargs, rfl, rfl, h0, r0⟩ := trodAll_cons hA
  obtain ⟨rfl, rfl, rfl⟩ := trodAll_nil r0
  obtain rfl : args = #[v0] := by cases args; simp_all
  obtain ⟨rfl, rfl⟩ := trodVars_none hV
  have k0 := h0
  have lt0 : ∀ x ∈ p0, x.block < W.heap.size := by obtain ⟨m, hm⟩ := k0; exact DataW.trod_lt m _ _ _ hm
  obtain ⟨p0_k, p0_l, p0_v, p0_b, rfl, wp0_k, wp0_l, wp0_v, wp0_b⟩ := open_pol (hval 0 23 v0 rfl rfl) h0
  clear hA0
  refine (walk p0_k p0_l p0_v p0_b wp0_k wp0_l wp0_v wp0_b W (tabW_of hL)).mono fun e W' ⟨he, bel⟩ => ?_
  subst he
  exact ⟨_, rfl, _, _, _, [], _, [], hW', trodAll_mk1 (shut_bool Tryd.underlying4 _), (trodAll_cons_mk (Below.trod laidOut (by kernel_rfl) (of_decide_eq_true (by kernel_rfl)) k0 bel lt0) trodAll_mk0), rfl, bel.frame _, fun h => by cases h⟩

theorem laid_met (os : Os) : laidMet Tryd.prog Rows.policySlotsRow.laid ((laidWorld os).forCall (fun _ _ => 0) ⟨#[], #[.agg #[.int .i64 0, .int .i64 0, .int .i64 0, .int .i64 0]], []⟩).memory :=
  laidMet_of_run' 8 (by kernel_rfl) (by kernel_rfl)
theorem reads (os : Os) {H : Type} (enc : TypeId × Value → H) : ∃ places, DataW.whole enc Tryd.prog ((laidWorld os).forCall (fun _ _ => 0) ⟨#[], #[.agg #[.int .i64 0, .int .i64 0, .int .i64 0, .int .i64 0]], []⟩).memory Tryd.f6.params.toList Rows.policySlotsSpec.vars false (#[.agg #[.int .i64 0, .int .i64 0, .int .i64 0, .int .i64 0]] : Array Value).toList 8 = some ([.agg [.lit (.int .i64 0), .lit (.int .i64 0), .lit (.int .i64 0), .lit (.int .i64 0)]], [], places) :=
  ⟨[], by kernel_rfl⟩

set_option maxRecDepth 100000 in
theorem lifted (os : Os) (started : os.Started) (H : Type) (enc : TypeId × Value → H) (F : Stop.Interp) :
    ReturnsInHanded {} Tryd.checked os 6 .any ((OpenSpec.ofChange Rows.policySlotsSpec).preRow enc Tryd.prog Tryd.f6 Rows.policySlotsRow.domain false Rows.policySlotsRow.laid) (((OpenSpec.ofChange Rows.policySlotsSpec).at F).post enc Tryd.prog Tryd.f6 false true false false) := by
  obtain ⟨places, hx⟩ := reads os enc
  refine returnsInHanded_of_row (C := Tryd.checked) (s := OpenSpec.ofChange Rows.policySlotsSpec) own started (by kernel_rfl) Tryd.func6
    (witness_row_at (enc := enc) (C := Tryd.checked) false (laidWorld os) #[.agg #[.int .i64 0, .int .i64 0, .int .i64 0, .int .i64 0]] rfl (by kernel_rfl) (by kernel_rfl) (by kernel_rfl)
      (OpenSpec.preRow_of_cond 8 hx (by kernel_rfl) (fun k hk => by cases hk) (by kernel_rfl) (laid_met os))) ?_
  intro W base args ds gs before hval hW _ _ _ hL _ _
  exact contract H enc W base args ds gs before hval hW hL

theorem said : Rows.PolicySlotsSaid :=
  OpenClaim.holds_of_cond 6 Tryd.f6 rfl rfl rfl rfl rfl rfl rfl ⟨rfl, rfl, rfl, rfl, rfl⟩ rfl rfl rfl rfl rfl (by kernel_rfl) Tryd.func6 (by kernel_rfl)
    (of_decide_eq_true (by kernel_rfl)) (by unfold Func.isWrapper; first | (rw [if_pos (by decide +kernel)]; kernel_rfl) | (rw [if_neg (by decide +kernel)]; exact ⟨rfl, rfl⟩))
    (fun os started H enc _ F => by rw [OpenClaim.pre_eq_preRow]; exact lifted os started H enc F)
theorem plain (f : FuncId) (fn : Func) (hf : Tryd.pinned.checked.prog.funcNamed Rows.policySlotsRow.func = some f) (hfn : Tryd.pinned.checked.prog.funcs[f]? = some fn) :
    false = Tryd.pinned.checked.prog.looks [] ∧ ∀ (j : Nat) t, fn.params[j]? = some t → Tryd.pinned.checked.prog.wantsStandIn t = false := by
  obtain rfl : f = 6 := Option.some.inj ((show Tryd.prog.funcNamed Rows.policySlotsRow.func = some 6 by kernel_rfl).symm.trans hf) |>.symm
  obtain rfl : fn = Tryd.f6 := (Option.some.inj (Tryd.func6.symm.trans hfn)).symm
  refine ⟨by kernel_rfl, fun j t ht => ?_⟩
  rw [Tryd.params6] at ht
  have hm := Array.mem_of_getElem? ht
  simp only [List.mem_toArray, List.mem_cons, List.not_mem_nil, or_false] at hm
  rcases hm with rfl
  · exact (show Tryd.prog.wantsStandIn 23 = false by kernel_rfl)
theorem card : Rows.PolicySlotsCardSaid :=
  Claim7.holds_tied_plain_at .later [] _ _ _ _ said (fun _ h => by cases h) (by kernel_rfl) (fun _ h => by cases h) policySlots_row_tie rfl ⟨rfl, rfl⟩ (by kernel_rfl) rfl plain (by kernel_rfl)
end Go.Proofs.YtkdmebgoobenkaaDoor.policySlots
namespace Go.Proofs.YtkdmebgoobenkaaDoor
theorem policySlots_proved : Rows.PolicySlotsCardSaid := policySlots.card
end Go.Proofs.YtkdmebgoobenkaaDoor

