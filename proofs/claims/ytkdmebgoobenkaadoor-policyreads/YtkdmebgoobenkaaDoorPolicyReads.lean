/- For every text the law PolicyReads returns true: policy.Decode answers as the document's own does (of at most 100 bytes, else only the document's examples are asked). The card's tie: the table of widths holds what its initialiser lays. -/
import Derived.Test.YtkdmebgoobenkaaDoorPolLive
import Derived.ShutString
namespace Go.Proofs.YtkdmebgoobenkaaDoor.policyReads
open Go.ChangeShapes Go.WideShapes Go.ChangeAt Go.RowKit
open Go.ChangeMaps (open_string shut_string)
set_option linter.unusedVariables false

theorem dec (s : ByteArray) (hs : s.size ≤ maxLen) : ∃ k l v b c : Int, (∀ u, TabW u → Calls Tryd.prog 19 #[.string s] u fun e w' => e = .returned (.tuple #[.agg #[.int .i64 k, .int .i64 l, .int .i64 v, .int .i64 b], .int .i64 c]) ∧ Below u.heap.size u w') ∧ (∀ u, Calls Tryd.prog 20 #[.string s] u fun e w' => e = .returned (.tuple #[.agg #[.int .i64 k, .int .i64 l, .int .i64 v, .int .i64 b], .int .i64 c]) ∧ Below u.heap.size u w') := by
  by_cases h1 : s.size < 10
  · refine ⟨0, 0, 0, 0, 2, fun u ht => ?_, fun u => rDecode_cut s u h1⟩
    by_cases a : s.size < 1
    · exact Decode_cut0 s u ht hs (by omega) a
    by_cases b : s.size < 5
    · exact Decode_cut1 s u ht hs (by omega) b
    by_cases c : s.size < 9
    · exact Decode_cut2 s u ht hs (by omega) c
    exact Decode_cut3 s u ht hs (by omega) h1
  by_cases h2 : 10 < s.size
  · exact ⟨0, 0, 0, 0, 3, fun u ht => Decode_long s u ht hs h2, fun u => rDecode_long s u hs h2⟩
  have h3 : s.size = 10 := by omega
  by_cases hm : MayP (fld s 0 1) (fld s 1 4) (fld s 5 4) (fld s 9 1)
  · exact ⟨_, _, _, _, _, fun u ht => Decode_yes s u ht h3 hm, fun u => rDecode_yes s u h3 hm⟩
  · exact ⟨_, _, _, _, _, fun u ht => Decode_no s u ht h3 hm, fun u => rDecode_no s u h3 hm⟩
set_option maxRecDepth 100000 in
set_option maxHeartbeats 2000000 in
theorem walk (s : ByteArray) (hs : s.size ≤ maxLen) (W : World) (ht : TabW W) :
    Calls Tryd.prog 4 #[.string s] W fun e w' => e = .returned (.bool true) ∧ Below W.heap.size W w' := by
  have hs' := hs
  unfold maxLen at hs'
  by_cases h100 : 100 < s.size
  · have L := Lib.hid (live_any W ht)
    clear ht
    go_enter Tryd.func4, Tryd.ntmps4
    go_wp2_with fail
    refine L.out.mono ?_; rintro e w1 ⟨rfl, hb⟩
    go_wp2
    go_ret
    exact ⟨rfl, hb⟩
  · obtain ⟨k, l, v, b, c, q1, q2⟩ := dec s hs
    have D1 := Lib.hid (q1 W ht)
    have D2 := Lib.hid q2
    have T0 := Lib.hid ht
    clear q1 q2 ht
    go_enter Tryd.func4, Tryd.ntmps4
    go_wp2_with fail
    refine D1.out.mono ?_; rintro e w1 ⟨rfl, hb⟩
    have A1 := Lib.hid (PolAt.made w1 k l v b 23)
    have B1 := Lib.hid (hb.trans (A1.out.be.mono hb.size))
    have T1 := Lib.hid (T0.out.below B1.out T0.out.sz)
    clear hb T0 D1
    go_wp2_with fail
    refine (D2.out _).mono ?_; rintro e w2 ⟨rfl, hb⟩
    have A2 := Lib.hid ((A1.out.step hb).alloc (.cells #[.int .i64 k, .int .i64 l, .int .i64 v, .int .i64 b] 23))
    have C2 := Lib.hid (PolAt.made w2 k l v b 23)
    have B2 := Lib.hid ((B1.out.trans (hb.mono B1.out.size)).trans (C2.out.be.mono (Nat.le_trans B1.out.size hb.size)))
    have T2 := Lib.hid ((T1.out.step hb).alloc (.cells #[.int .i64 k, .int .i64 l, .int .i64 v, .int .i64 b] 23))
    have a0 := A2.out.d0
    have a1 := A2.out.d1
    have a2 := A2.out.d2
    have a3 := A2.out.d3
    clear hb T1 D2 A1 B1
    go_wp2_with fail
    refine (live_any _ T2.out).mono ?_; rintro e w3 ⟨rfl, hb⟩
    go_wp2_with fail
    go_ret
    exact ⟨rfl, B2.out.trans (hb.mono B2.out.size)⟩

theorem own : ownKnob Tryd.prog.godebug = none := by kernel_rfl
theorem laidOut : laidOutB Tryd.prog = true := by kernel_rfl
theorem contract (H : Type) (enc : TypeId × Value → H) (W : World) (base : Nat) (args : Array Value) (ds gs : List (DataW H)) (before : List MemPlace)
    (hval : ∀ (j : Nat) t v, Tryd.f4.params[j]? = some t → args[j]? = some v → Value.okWide Tryd.prog W .any base t v)
    (hW : DataW.Whole enc Tryd.prog Tryd.f4.params.toList Rows.policyReadsSpec.vars false W args.toList ds gs before) (hL : laidMetH Tryd.prog Rows.policyReadsRow.laid W) :
    Calls Tryd.prog 4 args W fun e W' => ∃ v, e = .returned v ∧ Rows.policyReadsSpec.post enc Tryd.prog Tryd.f4 false true false false W args v W' := by
  have hW' := hW
  obtain ⟨p, q, hA0, hV, rfl, hfz, hnd⟩ := hW
  have hA : DataW.TrodAll enc Tryd.prog W 0 (fun _ => true) true Tryd.f4.params.toList args.toList ds p := hA0
  rw [Tryd.params4] at hA hval
  obtain ⟨v0, vs0, d0, ds0, p0, q0, hargs, rfl, rfl, h0, r0⟩ := trodAll_cons hA
  obtain ⟨rfl, rfl, rfl⟩ := trodAll_nil r0
  obtain rfl : args = #[v0] := by cases args; simp_all
  obtain ⟨rfl, rfl⟩ := trodVars_none hV
  obtain ⟨a0, rfl, rfl, rfl, w0⟩ := open_string Tryd.underlying9 (hval 0 9 v0 rfl rfl) h0
  clear hA0
  refine (walk a0 w0 W (tabW_of hL)).mono fun e W' ⟨he, bel⟩ => ?_
  subst he
  exact ⟨_, rfl, _, _, _, [], _, [], hW', trodAll_mk1 (shut_bool Tryd.underlying4 _), (trodAll_cons_mk (shut_string Tryd.underlying9 w0) trodAll_mk0), rfl, bel.frame _, fun h => by cases h⟩

theorem laid_met (os : Os) : laidMet Tryd.prog Rows.policyReadsRow.laid ((laidWorld os).forCall (fun _ _ => 0) ⟨#[], #[.string .empty], []⟩).memory :=
  laidMet_of_run' 8 (by kernel_rfl) (by kernel_rfl)
theorem reads (os : Os) {H : Type} (enc : TypeId × Value → H) : ∃ places, DataW.whole enc Tryd.prog ((laidWorld os).forCall (fun _ _ => 0) ⟨#[], #[.string .empty], []⟩).memory Tryd.f4.params.toList Rows.policyReadsSpec.vars false (#[.string .empty] : Array Value).toList 8 = some ([.lit (.string [])], [], places) :=
  ⟨[], by kernel_rfl⟩

set_option maxRecDepth 100000 in
theorem lifted (os : Os) (started : os.Started) (H : Type) (enc : TypeId × Value → H) (F : Stop.Interp) :
    ReturnsInHanded {} Tryd.checked os 4 .any ((OpenSpec.ofChange Rows.policyReadsSpec).preRow enc Tryd.prog Tryd.f4 Rows.policyReadsRow.domain false Rows.policyReadsRow.laid) (((OpenSpec.ofChange Rows.policyReadsSpec).at F).post enc Tryd.prog Tryd.f4 false true false false) := by
  obtain ⟨places, hx⟩ := reads os enc
  refine returnsInHanded_of_row (C := Tryd.checked) (s := OpenSpec.ofChange Rows.policyReadsSpec) own started (by kernel_rfl) Tryd.func4
    (witness_row_at (enc := enc) (C := Tryd.checked) false (laidWorld os) #[.string .empty] rfl (by kernel_rfl) (by kernel_rfl) (by kernel_rfl)
      (OpenSpec.preRow_of_cond 8 hx (by kernel_rfl) (fun k hk => by cases hk) (by kernel_rfl) (laid_met os))) ?_
  intro W base args ds gs before hval hW _ _ _ hL _ _
  exact contract H enc W base args ds gs before hval hW hL

theorem said : Rows.PolicyReadsSaid :=
  OpenClaim.holds_of_cond 4 Tryd.f4 rfl rfl rfl rfl rfl rfl rfl ⟨rfl, rfl, rfl, rfl, rfl⟩ rfl rfl rfl rfl rfl (by kernel_rfl) Tryd.func4 (by kernel_rfl)
    (of_decide_eq_true (by kernel_rfl)) (by unfold Func.isWrapper; first | (rw [if_pos (by decide +kernel)]; kernel_rfl) | (rw [if_neg (by decide +kernel)]; exact ⟨rfl, rfl⟩))
    (fun os started H enc _ F => by rw [OpenClaim.pre_eq_preRow]; exact lifted os started H enc F)
theorem plain (f : FuncId) (fn : Func) (hf : Tryd.pinned.checked.prog.funcNamed Rows.policyReadsRow.func = some f) (hfn : Tryd.pinned.checked.prog.funcs[f]? = some fn) :
    false = Tryd.pinned.checked.prog.looks [] ∧ ∀ (j : Nat) t, fn.params[j]? = some t → Tryd.pinned.checked.prog.wantsStandIn t = false := by
  obtain rfl : f = 4 := Option.some.inj ((show Tryd.prog.funcNamed Rows.policyReadsRow.func = some 4 by kernel_rfl).symm.trans hf) |>.symm
  obtain rfl : fn = Tryd.f4 := (Option.some.inj (Tryd.func4.symm.trans hfn)).symm
  refine ⟨by kernel_rfl, fun j t ht => ?_⟩
  rw [Tryd.params4] at ht
  have hm := Array.mem_of_getElem? ht
  simp only [List.mem_toArray, List.mem_cons, List.not_mem_nil, or_false] at hm
  rcases hm with rfl
  · exact (show Tryd.prog.wantsStandIn 9 = false by kernel_rfl)
theorem card : Rows.PolicyReadsCardSaid :=
  Claim7.holds_tied_plain_at .later [] _ _ _ _ said (fun _ h => by cases h) (by kernel_rfl) (fun _ h => by cases h) policyReads_row_tie rfl ⟨rfl, rfl⟩ (by kernel_rfl) rfl plain (by kernel_rfl)
end Go.Proofs.YtkdmebgoobenkaaDoor.policyReads
namespace Go.Proofs.YtkdmebgoobenkaaDoor
theorem policyReads_proved : Rows.PolicyReadsCardSaid := policyReads.card
end Go.Proofs.YtkdmebgoobenkaaDoor

