/- For every policy and every number the law PolicyTells returns true: policy.Check, Encode, Span, Slot and Weighs answer as the document's own do. The card's tie: the table of widths holds what its initialiser lays. -/
import Derived.Test.YtkdmebgoobenkaaDoorPolLive
import Derived.Deep.RegionHeld3
namespace Go.Proofs.YtkdmebgoobenkaaDoor.policyTells
open Go.ChangeShapes Go.WideShapes Go.ChangeAt Go.RowKit
set_option linter.unusedVariables false

theorem chk (k l v b : Int) : ∃ r : Int, (∀ u, Calls Tryd.prog 10 #[.agg #[.int .i64 k, .int .i64 l, .int .i64 v, .int .i64 b]] u fun e w' => e = .returned (.int .i64 r) ∧ Below u.heap.size u w') ∧ (∀ u, Calls Tryd.prog 11 #[.agg #[.int .i64 k, .int .i64 l, .int .i64 v, .int .i64 b]] u fun e w' => e = .returned (.int .i64 r) ∧ Below u.heap.size u w') := by
  by_cases h : MayP k l v b
  · exact ⟨_, fun u => Check_yes k l v b u h, fun u => rCheck_yes k l v b u h⟩
  · exact ⟨_, fun u => Check_no k l v b u h, fun u => rCheck_no k l v b u h⟩
theorem spn (k l v b : Int) : ∃ r : Int, (∀ u, Calls Tryd.prog 12 #[.agg #[.int .i64 k, .int .i64 l, .int .i64 v, .int .i64 b]] u fun e w' => e = .returned (.int .i64 r) ∧ Below u.heap.size u w') ∧ (∀ u, Calls Tryd.prog 13 #[.agg #[.int .i64 k, .int .i64 l, .int .i64 v, .int .i64 b]] u fun e w' => e = .returned (.int .i64 r) ∧ Below u.heap.size u w') := by
  by_cases h : MayP k l v b
  · exact ⟨_, fun u => Span_yes k l v b u h, fun u => rSpan_yes k l v b u h⟩
  · exact ⟨_, fun u => Span_no k l v b u h, fun u => rSpan_no k l v b u h⟩
theorem slt (k l v b : Int) : ∃ r : Int, (∀ u, Calls Tryd.prog 14 #[.agg #[.int .i64 k, .int .i64 l, .int .i64 v, .int .i64 b]] u fun e w' => e = .returned (.int .i64 r) ∧ Below u.heap.size u w') ∧ (∀ u, Calls Tryd.prog 15 #[.agg #[.int .i64 k, .int .i64 l, .int .i64 v, .int .i64 b]] u fun e w' => e = .returned (.int .i64 r) ∧ Below u.heap.size u w') := by
  by_cases h : MayP k l v b
  · exact ⟨_, fun u => Slot_yes k l v b u h, fun u => rSlot_yes k l v b u h⟩
  · exact ⟨_, fun u => Slot_no k l v b u h, fun u => rSlot_no k l v b u h⟩
theorem enc (k l v b : Int) : ∃ (s : ByteArray) (c : Int), (∀ u, TabW u → Calls Tryd.prog 8 #[.agg #[.int .i64 k, .int .i64 l, .int .i64 v, .int .i64 b]] u fun e w' => e = .returned (.tuple #[.string s, .int .i64 c]) ∧ Below u.heap.size u w') ∧ (∀ u, Calls Tryd.prog 9 #[.agg #[.int .i64 k, .int .i64 l, .int .i64 v, .int .i64 b]] u fun e w' => e = .returned (.tuple #[.string s, .int .i64 c]) ∧ Below u.heap.size u w') := by
  by_cases h : MayP k l v b
  · exact ⟨_, _, fun u ht => Encode_yes k l v b u h ht, fun u => rEncode_yes k l v b u h⟩
  · exact ⟨_, _, fun u _ => Encode_no k l v b u h, fun u => rEncode_no k l v b u h⟩
theorem wgh (n : Int) : ∃ r : Bool, (∀ u, Calls Tryd.prog 16 #[.int .i64 n] u fun e w' => e = .returned (.bool r) ∧ u = w') ∧ (∀ u, Calls Tryd.prog 17 #[.int .i64 n] u fun e w' => e = .returned (.bool r) ∧ u = w') := by
  by_cases h : 1 ≤ n ∧ n ≤ 1048576
  · exact ⟨_, fun u => Weighs_yes n u h.1 h.2, fun u => rWeighs_yes n u h.1 h.2⟩
  · exact ⟨_, fun u => Weighs_no n u h, fun u => rWeighs_no n u h⟩
set_option maxRecDepth 100000 in
set_option maxHeartbeats 4000000 in
theorem walk (k l v b n : Int) (h0 : (Lit.int .i64 k).wf = true) (h1 : (Lit.int .i64 l).wf = true) (h2 : (Lit.int .i64 v).wf = true) (h3 : (Lit.int .i64 b).wf = true) (h4 : (Lit.int .i64 n).wf = true) (W : World) (ht : TabW W) :
    Calls Tryd.prog 3 #[.agg #[.int .i64 k, .int .i64 l, .int .i64 v, .int .i64 b], .int .i64 n] W fun e w' => e = .returned (.bool true) ∧ Below W.heap.size W w' := by
  obtain ⟨c, q1, q2⟩ := chk k l v b
  have C1 := Lib.hid q1
  have C2 := Lib.hid q2
  clear q1 q2
  obtain ⟨sp, q1, q2⟩ := spn k l v b
  have S1 := Lib.hid q1
  have S2 := Lib.hid q2
  clear q1 q2
  obtain ⟨sl, q1, q2⟩ := slt k l v b
  have L1 := Lib.hid q1
  have L2 := Lib.hid q2
  clear q1 q2
  obtain ⟨wr, q1, q2⟩ := wgh n
  have W1 := Lib.hid q1
  have W2 := Lib.hid q2
  clear q1 q2
  obtain ⟨es, ec, q1, q2⟩ := enc k l v b
  have E1 := Lib.hid q1
  have E2 := Lib.hid q2
  clear q1 q2
  have A0 := Lib.hid (PolAt.made W k l v b 23)
  have T0 := Lib.hid (ht.alloc (.cells #[.int .i64 k, .int .i64 l, .int .i64 v, .int .i64 b] 23))
  clear ht h0 h1 h2 h3 h4
  go_enter Tryd.func3, Tryd.ntmps3
  go_wp2_with fail
  refine (E1.out _ T0.out).mono ?_; rintro e w1 ⟨rfl, hb⟩
  have hp := A0.out.step hb
  have z0 := hp.d0
  have z1 := hp.d1
  have z2 := hp.d2
  have z3 := hp.d3
  have A1 := Lib.hid hp
  have T1 := Lib.hid (T0.out.step hb)
  clear hb hp A0 T0
  go_wp2_with fail
  refine (E2.out _).mono ?_; rintro e w2 ⟨rfl, hb⟩
  clear z0 z1 z2 z3
  have hp := A1.out.step hb
  have z0 := hp.d0
  have z1 := hp.d1
  have z2 := hp.d2
  have z3 := hp.d3
  have HP := Lib.hid hp.drew
  have HT := Lib.hid (show TabW w2.drew from ⟨(T1.out.step hb).sz, (T1.out.step hb).t0, (T1.out.step hb).t1, (T1.out.step hb).t2, (T1.out.step hb).t3⟩)
  clear hb hp A1 T1
  go_wp2_with fail
  go_region_held3 (fun w' => w'.cell? ⟨W.heap.size, 0, none⟩ = some (.int .i64 k) ∧ w'.cell? ⟨W.heap.size, 1, none⟩ = some (.int .i64 l) ∧ w'.cell? ⟨W.heap.size, 2, none⟩ = some (.int .i64 v) ∧ w'.cell? ⟨W.heap.size, 3, none⟩ = some (.int .i64 b)) (first | exact ⟨z0, z1, z2, z3⟩ | exact ⟨a0, a1, a2, a3⟩ | exact ⟨b0, b1, b2, b3⟩ | exact ⟨c0, c1, c2, c3⟩ | exact ⟨d0, d1, d2, d3⟩ | exact ⟨e0, e1, e2, e3⟩ | exact ⟨f0, f1, f2, f3⟩ | exact ⟨HP6.out.d0, HP6.out.d1, HP6.out.d2, HP6.out.d3⟩ | go_keep) (first | (go_at_call 10; refine (C1.out _).mono ?_; rintro e wa ⟨rfl, hb0⟩; have hp0 := HP.out.step hb0; have HP0 := Lib.hid hp0; have HT0 := Lib.hid (HT.out.step hb0); have a0 := hp0.d0; have a1 := hp0.d1; have a2 := hp0.d2; have a3 := hp0.d3; clear hb0 hp0) | (go_at_call 11; refine (C2.out _).mono ?_; rintro e wb ⟨rfl, hb1⟩; have hp1 := HP0.out.step hb1; have HP1 := Lib.hid hp1; have HT1 := Lib.hid (HT0.out.step hb1); have b0 := hp1.d0; have b1 := hp1.d1; have b2 := hp1.d2; have b3 := hp1.d3; clear hb1 hp1) | (go_at_call 12; refine (S1.out _).mono ?_; rintro e wc ⟨rfl, hb2⟩; have hp2 := HP1.out.step hb2; have HP2 := Lib.hid hp2; have HT2 := Lib.hid (HT1.out.step hb2); have c0 := hp2.d0; have c1 := hp2.d1; have c2 := hp2.d2; have c3 := hp2.d3; clear hb2 hp2) | (go_at_call 13; refine (S2.out _).mono ?_; rintro e wd ⟨rfl, hb3⟩; have hp3 := HP2.out.step hb3; have HP3 := Lib.hid hp3; have HT3 := Lib.hid (HT2.out.step hb3); have d0 := hp3.d0; have d1 := hp3.d1; have d2 := hp3.d2; have d3 := hp3.d3; clear hb3 hp3) | (go_at_call 14; refine (L1.out _).mono ?_; rintro e we ⟨rfl, hb4⟩; have hp4 := HP3.out.step hb4; have HP4 := Lib.hid hp4; have HT4 := Lib.hid (HT3.out.step hb4); have e0 := hp4.d0; have e1 := hp4.d1; have e2 := hp4.d2; have e3 := hp4.d3; clear hb4 hp4) | (go_at_call 15; refine (L2.out _).mono ?_; rintro e wf ⟨rfl, hb5⟩; have hp5 := HP4.out.step hb5; have HP5 := Lib.hid hp5; have HT5 := Lib.hid (HT4.out.step hb5); have f0 := hp5.d0; have f1 := hp5.d1; have f2 := hp5.d2; have f3 := hp5.d3; clear hb5 hp5) | (go_at_call 16; refine (W1.out _).mono ?_; rintro e w' ⟨rfl, rfl⟩) | (go_at_call 17; refine (W2.out _).mono ?_; rintro e w' ⟨rfl, rfl⟩) | (go_at_call 18; refine (live_any _ HT5.out).mono ?_; rintro e wg ⟨rfl, hbl⟩; have HP6 := Lib.hid (HP5.out.step hbl); clear hbl))
  all_goals (go_wp2_with fail; go_ret; exact ⟨rfl, HP6.out.be⟩)

theorem own : ownKnob Tryd.prog.godebug = none := by kernel_rfl
theorem laidOut : laidOutB Tryd.prog = true := by kernel_rfl
theorem contract (H : Type) (enc : TypeId × Value → H) (W : World) (base : Nat) (args : Array Value) (ds gs : List (DataW H)) (before : List MemPlace)
    (hval : ∀ (j : Nat) t v, Tryd.f3.params[j]? = some t → args[j]? = some v → Value.okWide Tryd.prog W .any base t v)
    (hW : DataW.Whole enc Tryd.prog Tryd.f3.params.toList Rows.policyTellsSpec.vars false W args.toList ds gs before) (hL : laidMetH Tryd.prog Rows.policyTellsRow.laid W) :
    Calls Tryd.prog 3 args W fun e W' => ∃ v, e = .returned v ∧ Rows.policyTellsSpec.post enc Tryd.prog Tryd.f3 false true false false W args v W' := by
  have hW' := hW
  obtain ⟨p, q, hA0, hV, rfl, hfz, hnd⟩ := hW
  have hA : DataW.TrodAll enc Tryd.prog W 0 (fun _ => true) true Tryd.f3.params.toList args.toList ds p := hA0
  rw [Tryd.params3] at hA hval
  obtain ⟨v0, vs0, d0, ds0, p0, q0, hargs, rfl, rfl, h0, r0⟩ := trodAll_cons hA
  obtain ⟨v1, vs1, d1, ds1, p1, q1, rfl, rfl, rfl, h1, r1⟩ := trodAll_cons r0
  obtain ⟨rfl, rfl, rfl⟩ := trodAll_nil r1
  obtain rfl : args = #[v0, v1] := by cases args; simp_all
  obtain ⟨rfl, rfl⟩ := trodVars_none hV
  have k0 := h0
  have lt0 : ∀ x ∈ p0, x.block < W.heap.size := by obtain ⟨m, hm⟩ := k0; exact DataW.trod_lt m _ _ _ hm
  obtain ⟨p0_k, p0_l, p0_v, p0_b, rfl, wp0_k, wp0_l, wp0_v, wp0_b⟩ := open_pol (hval 0 23 v0 rfl rfl) h0
  obtain ⟨a1, rfl, rfl, rfl, w1⟩ := open_int Tryd.underlying3 (hval 1 3 v1 rfl rfl) h1
  clear hA0
  refine (walk p0_k p0_l p0_v p0_b a1 wp0_k wp0_l wp0_v wp0_b w1 W (tabW_of hL)).mono fun e W' ⟨he, bel⟩ => ?_
  subst he
  exact ⟨_, rfl, _, _, _, [], _, [], hW', trodAll_mk1 (shut_bool Tryd.underlying4 _), (trodAll_cons_mk (Below.trod laidOut (by kernel_rfl) (of_decide_eq_true (by kernel_rfl)) k0 bel lt0) (trodAll_cons_mk (shut_int Tryd.underlying3 w1) trodAll_mk0)), rfl, bel.frame _, fun h => by cases h⟩

theorem laid_met (os : Os) : laidMet Tryd.prog Rows.policyTellsRow.laid ((laidWorld os).forCall (fun _ _ => 0) ⟨#[], #[.agg #[.int .i64 0, .int .i64 0, .int .i64 0, .int .i64 0], .int .i64 0], []⟩).memory :=
  laidMet_of_run' 8 (by kernel_rfl) (by kernel_rfl)
theorem reads (os : Os) {H : Type} (enc : TypeId × Value → H) : ∃ places, DataW.whole enc Tryd.prog ((laidWorld os).forCall (fun _ _ => 0) ⟨#[], #[.agg #[.int .i64 0, .int .i64 0, .int .i64 0, .int .i64 0], .int .i64 0], []⟩).memory Tryd.f3.params.toList Rows.policyTellsSpec.vars false (#[.agg #[.int .i64 0, .int .i64 0, .int .i64 0, .int .i64 0], .int .i64 0] : Array Value).toList 8 = some ([.agg [.lit (.int .i64 0), .lit (.int .i64 0), .lit (.int .i64 0), .lit (.int .i64 0)], .lit (.int .i64 0)], [], places) :=
  ⟨[], by kernel_rfl⟩

set_option maxRecDepth 100000 in
theorem lifted (os : Os) (started : os.Started) (H : Type) (enc : TypeId × Value → H) (F : Stop.Interp) :
    ReturnsInHanded {} Tryd.checked os 3 .any ((OpenSpec.ofChange Rows.policyTellsSpec).preRow enc Tryd.prog Tryd.f3 Rows.policyTellsRow.domain false Rows.policyTellsRow.laid) (((OpenSpec.ofChange Rows.policyTellsSpec).at F).post enc Tryd.prog Tryd.f3 false true false false) := by
  obtain ⟨places, hx⟩ := reads os enc
  refine returnsInHanded_of_row (C := Tryd.checked) (s := OpenSpec.ofChange Rows.policyTellsSpec) own started (by kernel_rfl) Tryd.func3
    (witness_row_at (enc := enc) (C := Tryd.checked) false (laidWorld os) #[.agg #[.int .i64 0, .int .i64 0, .int .i64 0, .int .i64 0], .int .i64 0] rfl (by kernel_rfl) (by kernel_rfl) (by kernel_rfl)
      (OpenSpec.preRow_of_cond 8 hx (by kernel_rfl) (fun k hk => by cases hk) (by kernel_rfl) (laid_met os))) ?_
  intro W base args ds gs before hval hW _ _ _ hL _ _
  exact contract H enc W base args ds gs before hval hW hL

theorem said : Rows.PolicyTellsSaid :=
  OpenClaim.holds_of_cond 3 Tryd.f3 rfl rfl rfl rfl rfl rfl rfl ⟨rfl, rfl, rfl, rfl, rfl⟩ rfl rfl rfl rfl rfl (by kernel_rfl) Tryd.func3 (by kernel_rfl)
    (of_decide_eq_true (by kernel_rfl)) (by unfold Func.isWrapper; first | (rw [if_pos (by decide +kernel)]; kernel_rfl) | (rw [if_neg (by decide +kernel)]; exact ⟨rfl, rfl⟩))
    (fun os started H enc _ F => by rw [OpenClaim.pre_eq_preRow]; exact lifted os started H enc F)
theorem plain (f : FuncId) (fn : Func) (hf : Tryd.pinned.checked.prog.funcNamed Rows.policyTellsRow.func = some f) (hfn : Tryd.pinned.checked.prog.funcs[f]? = some fn) :
    false = Tryd.pinned.checked.prog.looks [] ∧ ∀ (j : Nat) t, fn.params[j]? = some t → Tryd.pinned.checked.prog.wantsStandIn t = false := by
  obtain rfl : f = 3 := Option.some.inj ((show Tryd.prog.funcNamed Rows.policyTellsRow.func = some 3 by kernel_rfl).symm.trans hf) |>.symm
  obtain rfl : fn = Tryd.f3 := (Option.some.inj (Tryd.func3.symm.trans hfn)).symm
  refine ⟨by kernel_rfl, fun j t ht => ?_⟩
  rw [Tryd.params3] at ht
  have hm := Array.mem_of_getElem? ht
  simp only [List.mem_toArray, List.mem_cons, List.not_mem_nil, or_false] at hm
  rcases hm with rfl | rfl
  · exact (show Tryd.prog.wantsStandIn 23 = false by kernel_rfl)
  · exact (show Tryd.prog.wantsStandIn 3 = false by kernel_rfl)
theorem card : Rows.PolicyTellsCardSaid :=
  Claim7.holds_tied_plain_at .later [] _ _ _ _ said (fun _ h => by cases h) (by kernel_rfl) (fun _ h => by cases h) policyTells_row_tie rfl ⟨rfl, rfl⟩ (by kernel_rfl) rfl plain (by kernel_rfl)
end Go.Proofs.YtkdmebgoobenkaaDoor.policyTells
namespace Go.Proofs.YtkdmebgoobenkaaDoor
theorem policyTells_proved : Rows.PolicyTellsCardSaid := policyTells.card
end Go.Proofs.YtkdmebgoobenkaaDoor

