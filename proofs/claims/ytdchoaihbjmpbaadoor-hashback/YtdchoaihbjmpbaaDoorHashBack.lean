/- For all two numbers the law HashBack returns true: what hash.Mix mixes hash.Unmix takes back, and the other way round, and unlike numbers are mixed to unlike ones. The card's tie: the table of steps holds what its initialiser lays. -/
import Derived.Test.YtdchoaihbjmpbaaDoorHashLive
namespace Go.Proofs.YtdchoaihbjmpbaaDoor.hashBack
open Go.ChangeShapes Go.WideShapes Go.ChangeAt Go.RowKit
set_option linter.unusedVariables false

theorem unmix_of {n : Nat} (w : World) (hn : U n) (ht : TabW w) : Calls Tryd.prog 18 #[.int .u64 (mixN n : Nat)] w fun e w' => e = .returned (.int .u64 n) ∧ Drew w w' := by
  have h := Unmix_go _ (mixN n) w rfl (mixN_u hn) ht
  rw [unmix_mix hn] at h
  exact h
theorem mix_of {n : Nat} (w : World) (hn : U n) (ht : TabW w) : Calls Tryd.prog 16 #[.int .u64 (unmixN n : Nat)] w fun e w' => e = .returned (.int .u64 n) ∧ Drew w w' := by
  have h := Mix_go _ (unmixN n) w rfl (unmixN_u hn) ht
  rw [mix_unmix hn] at h
  exact h
/-- Two are mixed: equal just where they are. -/
theorem same_b {a b : Nat} (ha : U a) (hb : U b) : (((mixN a : Nat) : Int) == ((mixN b : Nat) : Int)) = ((a : Int) == (b : Int)) := eqb (by rw [mix_inj ha hb]; omega)

set_option maxRecDepth 100000 in
theorem walk (x y : Int) (wx : (Lit.int .u64 x).wf = true) (wy : (Lit.int .u64 y).wf = true) (W : World) (ht : TabW W) :
    Calls Tryd.prog 4 #[.int .u64 x, .int .u64 y] W fun e w' => e = .returned (.bool true) ∧ Below W.heap.size W w' := by
  obtain ⟨a, rfl, ha⟩ := wf_u wx
  obtain ⟨b, rfl, hb⟩ := wf_u wy
  have HT := Lib.hid ht
  have HA := Lib.hid ha
  have HB := Lib.hid hb
  have HS := Lib.hid (same_b ha hb)
  clear ht ha hb wx wy
  go_enter Tryd.func4, Tryd.ntmps4
  go_wp2_with fail
  refine (Mix_go _ a _ rfl HA.out HT.out).mono ?_
  rintro e w1 ⟨rfl, hd⟩
  have D1 := Lib.hid hd
  clear hd
  go_wp2_with fail
  refine (unmix_of _ HA.out (D1.out.tab HT.out)).mono ?_
  rintro e w2 ⟨rfl, hd⟩
  have D2 := Lib.hid (D1.out.trans hd)
  clear hd
  go_wp2_with fail
  refine (Unmix_go _ a _ rfl HA.out (D2.out.tab HT.out)).mono ?_
  rintro e w3 ⟨rfl, hd⟩
  have D3 := Lib.hid (D2.out.trans hd)
  clear hd
  go_wp2_with fail
  refine (mix_of _ HA.out (D3.out.tab HT.out)).mono ?_
  rintro e w4 ⟨rfl, hd⟩
  have D4 := Lib.hid (D3.out.trans hd)
  clear hd
  go_wp2_with fail
  refine (Mix_go _ a _ rfl HA.out (D4.out.tab HT.out)).mono ?_
  rintro e w5 ⟨rfl, hd⟩
  have D5 := Lib.hid (D4.out.trans hd)
  clear hd
  go_wp2_with fail
  refine (Mix_go _ b _ rfl HB.out (D5.out.tab HT.out)).mono ?_
  rintro e w6 ⟨rfl, hd⟩
  have D6 := Lib.hid (D5.out.trans hd)
  clear hd
  have T := HS.out
  generalize mixN a = p at *
  generalize mixN b = q at *
  go_wp2_with fail
  refine (live_any _ (D6.out.tab HT.out)).mono ?_
  rintro e w7 ⟨rfl, hd⟩
  have D7 := Lib.hid (D6.out.trans hd)
  clear hd
  go_wp2
  go_ret
  exact ⟨rfl, D7.out.below⟩

theorem own : ownKnob Tryd.prog.godebug = none := by kernel_rfl
theorem laidOut : laidOutB Tryd.prog = true := by kernel_rfl
theorem contract (H : Type) (enc : TypeId × Value → H) (W : World) (base : Nat) (args : Array Value) (ds gs : List (DataW H)) (before : List MemPlace)
    (hval : ∀ (j : Nat) t v, Tryd.f4.params[j]? = some t → args[j]? = some v → Value.okWide Tryd.prog W .any base t v)
    (hW : DataW.Whole enc Tryd.prog Tryd.f4.params.toList Rows.hashBackSpec.vars false W args.toList ds gs before) (hL : laidMetH Tryd.prog Rows.hashBackRow.laid W) :
    Calls Tryd.prog 4 args W fun e W' => ∃ v, e = .returned v ∧ Rows.hashBackSpec.post enc Tryd.prog Tryd.f4 false true false false W args v W' := by
  have hW' := hW
  obtain ⟨p, q, hA0, hV, rfl, hfz, hnd⟩ := hW
  have hA : DataW.TrodAll enc Tryd.prog W 0 (fun _ => true) true Tryd.f4.params.toList args.toList ds p := hA0
  rw [Tryd.params4] at hA hval
  obtain ⟨v0, vs0, d0, ds0, p0, q0, hargs, rfl, rfl, h0, r0⟩ := trodAll_cons hA
  obtain ⟨v1, vs1, d1, ds1, p1, q1, rfl, rfl, rfl, h1, r1⟩ := trodAll_cons r0
  obtain ⟨rfl, rfl, rfl⟩ := trodAll_nil r1
  obtain rfl : args = #[v0, v1] := by cases args; simp_all
  obtain ⟨rfl, rfl⟩ := trodVars_none hV
  obtain ⟨a0, rfl, rfl, rfl, w0⟩ := open_int Tryd.underlying22 (hval 0 22 v0 rfl rfl) h0
  obtain ⟨a1, rfl, rfl, rfl, w1⟩ := open_int Tryd.underlying22 (hval 1 22 v1 rfl rfl) h1
  clear hA0
  refine (walk a0 a1 w0 w1 W (tabW_of hL)).mono fun e W' ⟨he, bel⟩ => ?_
  subst he
  exact ⟨_, rfl, _, _, _, [], _, [], hW', trodAll_mk1 (shut_bool Tryd.underlying4 _), (trodAll_cons_mk (shut_int Tryd.underlying22 w0) (trodAll_cons_mk (shut_int Tryd.underlying22 w1) trodAll_mk0)), rfl, bel.frame _, fun h => by cases h⟩

theorem laid_met (os : Os) : laidMet Tryd.prog Rows.hashBackRow.laid ((laidWorld os).forCall (fun _ _ => 0) ⟨#[], #[.int .u64 0, .int .u64 0], []⟩).memory :=
  laidMet_of_run' 8 (by kernel_rfl) (by kernel_rfl)
theorem reads (os : Os) {H : Type} (enc : TypeId × Value → H) : ∃ places, DataW.whole enc Tryd.prog ((laidWorld os).forCall (fun _ _ => 0) ⟨#[], #[.int .u64 0, .int .u64 0], []⟩).memory Tryd.f4.params.toList Rows.hashBackSpec.vars false (#[.int .u64 0, .int .u64 0] : Array Value).toList 8 = some ([.lit (.int .u64 0), .lit (.int .u64 0)], [], places) :=
  ⟨[], by kernel_rfl⟩

set_option maxRecDepth 100000 in
theorem lifted (os : Os) (started : os.Started) (H : Type) (enc : TypeId × Value → H) (F : Stop.Interp) :
    ReturnsInHanded {} Tryd.checked os 4 .any ((OpenSpec.ofChange Rows.hashBackSpec).preRow enc Tryd.prog Tryd.f4 Rows.hashBackRow.domain false Rows.hashBackRow.laid) (((OpenSpec.ofChange Rows.hashBackSpec).at F).post enc Tryd.prog Tryd.f4 false true false false) := by
  obtain ⟨places, hx⟩ := reads os enc
  refine returnsInHanded_of_row (C := Tryd.checked) (s := OpenSpec.ofChange Rows.hashBackSpec) own started (by kernel_rfl) Tryd.func4
    (witness_row_at (enc := enc) (C := Tryd.checked) false (laidWorld os) #[.int .u64 0, .int .u64 0] rfl (by kernel_rfl) (by kernel_rfl) (by kernel_rfl)
      (OpenSpec.preRow_of_cond 8 hx (by kernel_rfl) (fun k hk => by cases hk) (by kernel_rfl) (laid_met os))) ?_
  intro W base args ds gs before hval hW _ _ _ hL _ _
  exact contract H enc W base args ds gs before hval hW hL

theorem said : Rows.HashBackSaid :=
  OpenClaim.holds_of_cond 4 Tryd.f4 rfl rfl rfl rfl rfl rfl rfl ⟨rfl, rfl, rfl, rfl, rfl⟩ rfl rfl rfl rfl rfl (by kernel_rfl) Tryd.func4 (by kernel_rfl)
    (of_decide_eq_true (by kernel_rfl)) (by unfold Func.isWrapper; first | (rw [if_pos (by decide +kernel)]; kernel_rfl) | (rw [if_neg (by decide +kernel)]; exact ⟨rfl, rfl⟩))
    (fun os started H enc _ F => by rw [OpenClaim.pre_eq_preRow]; exact lifted os started H enc F)
theorem plain (f : FuncId) (fn : Func) (hf : Tryd.pinned.checked.prog.funcNamed Rows.hashBackRow.func = some f) (hfn : Tryd.pinned.checked.prog.funcs[f]? = some fn) :
    false = Tryd.pinned.checked.prog.looks [] ∧ ∀ (j : Nat) t, fn.params[j]? = some t → Tryd.pinned.checked.prog.wantsStandIn t = false := by
  obtain rfl : f = 4 := Option.some.inj ((show Tryd.prog.funcNamed Rows.hashBackRow.func = some 4 by kernel_rfl).symm.trans hf) |>.symm
  obtain rfl : fn = Tryd.f4 := (Option.some.inj (Tryd.func4.symm.trans hfn)).symm
  refine ⟨by kernel_rfl, fun j t ht => ?_⟩
  rw [Tryd.params4] at ht
  have hm := Array.mem_of_getElem? ht
  simp only [List.mem_toArray, List.mem_cons, List.not_mem_nil, or_false] at hm
  rcases hm with rfl | rfl
  · exact (show Tryd.prog.wantsStandIn 22 = false by kernel_rfl)
  · exact (show Tryd.prog.wantsStandIn 22 = false by kernel_rfl)
theorem card : Rows.HashBackCardSaid :=
  Claim7.holds_tied_plain_at .later [] _ _ _ _ said (fun _ h => by cases h) (by kernel_rfl) (fun _ h => by cases h) hashBack_row_tie rfl ⟨rfl, rfl⟩ (by kernel_rfl) rfl plain (by kernel_rfl)
end Go.Proofs.YtdchoaihbjmpbaaDoor.hashBack
namespace Go.Proofs.YtdchoaihbjmpbaaDoor
theorem hashBack_proved : Rows.HashBackCardSaid := hashBack.card
end Go.Proofs.YtdchoaihbjmpbaaDoor

