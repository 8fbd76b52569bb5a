/- For every five numbers of 64 bits the law NumsCaps returns true: by the lesser one of two caps a sum or product of nums is the lesser one; sums of three go together either way. No condition. -/
import Derived.Test.YtefpgpehncllnabRows
import Derived.Test.YtefpgpehncllnabNums7
import Derived.Test.YtefpgpehncllnabOpen
import Derived.Deep.QuietTactic
import Derived.BigQuiet
import Derived.WalkSmall
namespace Go.Proofs.Ytefpgpehncllnab.numsCaps
open Go.ChangeShapes Go.WideShapes Go.ChangeAt Go.RowKit
open Go.ChangeMaps (open_string shut_string)
set_option linter.unusedVariables false

/-- A sum, at most the greatest number of 64 bits. -/
def addC (a b : Int) : Int := addS a b 18446744073709551615
theorem Add_cap (a b : Int) (w : World) (ha : U64 a) (hb : U64 b) :
    Calls Try.prog 9 #[.int .u64 a, .int .u64 b, .int .u64 18446744073709551615] w fun e w' => e = .returned (.int .u64 (addC a b)) ∧ w = w' :=
  Add_any a b _ w ha hb (by unfold U64; omega)
theorem addC_u {a b : Int} (ha : U64 a) (hb : U64 b) : U64 (addC a b) := addS_u ha hb (by unfold U64; omega)
theorem g1 (a b : Int) {m m' : Int} (h : m ≤ m') : addS a b m ≤ addS a b m' ∧ mulS a b m ≤ mulS a b m' := by unfold addS mulS; omega
theorem g2 {a b c l : Int} (ha : U64 a) (hb : U64 b) (hc : U64 c) (hl : U64 l) : (addS (addS a b l) c l == addS a (addS b c l) l) = true := by
  unfold addS U64 at *; simp; omega
theorem g3 {a b c : Int} (ha : U64 a) (hb : U64 b) (hc : U64 c) : (subS (subS a b) c == subS a (addC b c)) = true := by
  unfold subS addC addS U64 at *; simp; split <;> split <;> split <;> omega

theorem quiet_mine {P : Program} {f : FuncId} {args : Array Value} {w : World} {n : Nat} {v : Value}
    (h : Calls P f args (w.drewN n) fun e w' => e = .returned v ∧ w.drewN n = w') : Calls P f args (w.drewN n) fun e w'' => e = .returned v ∧ ∃ m, w'' = w.drewN m :=
  h.mono fun _ _ ⟨he, hm⟩ => ⟨he, n, hm.symm⟩
theorem below_of {w w1 : World} {o : Obj} {nq : Nat} (h : Below ((w.alloc o).drewN nq).heap.size ((w.alloc o).drewN nq) w1) : Below w.heap.size w w1 :=
  (below_drewN ((Below.refl _ _).alloc (Nat.le_refl _) o) nq).trans (h.mono (by simp))

theorem walk (a b x0 x1 x2 : Int) (wa : (Lit.int .u64 a).wf = true) (wb : (Lit.int .u64 b).wf = true) (w0 : (Lit.int .u64 x0).wf = true) (w1 : (Lit.int .u64 x1).wf = true) (w2 : (Lit.int .u64 x2).wf = true) (w : World) :
    Calls Try.prog 8 #[.int .u64 a, .int .u64 b, .agg ([x0, x1, x2].map (Value.int .u64)).toArray] w fun e w' => e = .returned (.bool true) ∧ Below w.heap.size w w' := by
  have ha := U64.of_wf wa
  have hb := U64.of_wf wb
  have h0 := U64.of_wf w0
  have h1 := U64.of_wf w1
  have h2 := U64.of_wf w2
  clear wa wb w0 w1 w2
  show Calls Try.prog 8 #[.int .u64 a, .int .u64 b, .agg #[.int .u64 x0, .int .u64 x1, .int .u64 x2]] w fun e w' => e = .returned (.bool true) ∧ Below w.heap.size w w'
  by_cases hm : x0 ≤ x1
  · obtain ⟨m1, m2⟩ := g1 a b hm
    have t1 := g2 ha hb h2 h0
    have t2 := g3 ha hb h2
    go_enter Try.func8, Try.ntmps8
    go_wp2_with fail
    go_quiet ((first | (go_at_call 9; exact quiet_mine (Add_any _ _ _ _ ha hb (by assumption))) | (go_at_call 11; exact quiet_mine (Mul_any _ _ _ _ ha hb (by assumption)))))
    go_wp2_with fail
    refine (Add_any _ _ _ _ ha hb h0).mono ?_; rintro e w' ⟨rfl, rfl⟩
    go_wp2_with fail
    refine (Add_any _ _ _ _ (addS_u ha hb h0) h2 h0).mono ?_; rintro e w' ⟨rfl, rfl⟩
    go_wp2_with fail
    refine (Add_any _ _ _ _ hb h2 h0).mono ?_; rintro e w' ⟨rfl, rfl⟩
    go_wp2_with fail
    refine (Add_any _ _ _ _ ha (addS_u hb h2 h0) h0).mono ?_; rintro e w' ⟨rfl, rfl⟩
    go_wp2_with fail
    refine (Sub_any _ _ _ ha hb).mono ?_; rintro e w' ⟨rfl, rfl⟩
    go_wp2_with fail
    refine (Sub_any _ _ _ (subS_u ha hb) h2).mono ?_; rintro e w' ⟨rfl, rfl⟩
    go_wp2_with fail
    refine (Add_cap _ _ _ hb h2).mono ?_; rintro e w' ⟨rfl, rfl⟩
    go_wp2_with fail
    refine (Sub_any _ _ _ ha (addC_u hb h2)).mono ?_; rintro e w' ⟨rfl, rfl⟩
    go_wp2_with fail
    refine (live_any _).mono ?_; rintro e w1 ⟨rfl, hbl⟩
    go_wp2
    go_ret
    exact ⟨rfl, below_of hbl⟩
  · obtain ⟨m1, m2⟩ := g1 a b (show x1 ≤ x0 by omega)
    have t1 := g2 ha hb h2 h1
    have t2 := g3 ha hb h2
    have hm' : x1 < x0 := by omega
    clear hm
    have cA : addS a b x1 < addS a b x0 ∨ ((addS a b x1 != addS a b x0) = false ∧ ¬ addS a b x1 < addS a b x0) := by
      by_cases h : addS a b x1 < addS a b x0
      · exact .inl h
      · exact .inr ⟨by simp; omega, h⟩
    have cM : mulS a b x1 < mulS a b x0 ∨ ((mulS a b x1 != mulS a b x0) = false ∧ ¬ mulS a b x1 < mulS a b x0) := by
      by_cases h : mulS a b x1 < mulS a b x0
      · exact .inl h
      · exact .inr ⟨by simp; omega, h⟩
    clear m1 m2
    rcases cA with cA | ⟨cA, cA'⟩ <;> rcases cM with cM | ⟨cM, cM'⟩
    · skip
      go_enter Try.func8, Try.ntmps8
      go_wp2_with fail
      go_quiet ((first | (go_at_call 9; exact quiet_mine (Add_any _ _ _ _ ha hb (by assumption))) | (go_at_call 11; exact quiet_mine (Mul_any _ _ _ _ ha hb (by assumption)))))
      go_wp2_with fail
      refine (Add_any _ _ _ _ ha hb h1).mono ?_; rintro e w' ⟨rfl, rfl⟩
      go_wp2_with fail
      refine (Add_any _ _ _ _ (addS_u ha hb h1) h2 h1).mono ?_; rintro e w' ⟨rfl, rfl⟩
      go_wp2_with fail
      refine (Add_any _ _ _ _ hb h2 h1).mono ?_; rintro e w' ⟨rfl, rfl⟩
      go_wp2_with fail
      refine (Add_any _ _ _ _ ha (addS_u hb h2 h1) h1).mono ?_; rintro e w' ⟨rfl, rfl⟩
      go_wp2_with fail
      refine (Sub_any _ _ _ ha hb).mono ?_; rintro e w' ⟨rfl, rfl⟩
      go_wp2_with fail
      refine (Sub_any _ _ _ (subS_u ha hb) h2).mono ?_; rintro e w' ⟨rfl, rfl⟩
      go_wp2_with fail
      refine (Add_cap _ _ _ hb h2).mono ?_; rintro e w' ⟨rfl, rfl⟩
      go_wp2_with fail
      refine (Sub_any _ _ _ ha (addC_u hb h2)).mono ?_; rintro e w' ⟨rfl, rfl⟩
      go_wp2_with fail
      refine (live_any _).mono ?_; rintro e w1 ⟨rfl, hbl⟩
      go_wp2
      go_ret
      exact ⟨rfl, below_of hbl⟩
    · skip
      go_enter Try.func8, Try.ntmps8
      go_wp2_with fail
      go_quiet ((first | (go_at_call 9; exact quiet_mine (Add_any _ _ _ _ ha hb (by assumption))) | (go_at_call 11; exact quiet_mine (Mul_any _ _ _ _ ha hb (by assumption)))))
      go_wp2_with fail
      refine (Add_any _ _ _ _ ha hb h1).mono ?_; rintro e w' ⟨rfl, rfl⟩
      go_wp2_with fail
      refine (Add_any _ _ _ _ (addS_u ha hb h1) h2 h1).mono ?_; rintro e w' ⟨rfl, rfl⟩
      go_wp2_with fail
      refine (Add_any _ _ _ _ hb h2 h1).mono ?_; rintro e w' ⟨rfl, rfl⟩
      go_wp2_with fail
      refine (Add_any _ _ _ _ ha (addS_u hb h2 h1) h1).mono ?_; rintro e w' ⟨rfl, rfl⟩
      go_wp2_with fail
      refine (Sub_any _ _ _ ha hb).mono ?_; rintro e w' ⟨rfl, rfl⟩
      go_wp2_with fail
      refine (Sub_any _ _ _ (subS_u ha hb) h2).mono ?_; rintro e w' ⟨rfl, rfl⟩
      go_wp2_with fail
      refine (Add_cap _ _ _ hb h2).mono ?_; rintro e w' ⟨rfl, rfl⟩
      go_wp2_with fail
      refine (Sub_any _ _ _ ha (addC_u hb h2)).mono ?_; rintro e w' ⟨rfl, rfl⟩
      go_wp2_with fail
      refine (live_any _).mono ?_; rintro e w1 ⟨rfl, hbl⟩
      go_wp2
      go_ret
      exact ⟨rfl, below_of hbl⟩
    · skip
      go_enter Try.func8, Try.ntmps8
      go_wp2_with fail
      go_quiet ((first | (go_at_call 9; exact quiet_mine (Add_any _ _ _ _ ha hb (by assumption))) | (go_at_call 11; exact quiet_mine (Mul_any _ _ _ _ ha hb (by assumption)))))
      go_wp2_with fail
      refine (Add_any _ _ _ _ ha hb h1).mono ?_; rintro e w' ⟨rfl, rfl⟩
      go_wp2_with fail
      refine (Add_any _ _ _ _ (addS_u ha hb h1) h2 h1).mono ?_; rintro e w' ⟨rfl, rfl⟩
      go_wp2_with fail
      refine (Add_any _ _ _ _ hb h2 h1).mono ?_; rintro e w' ⟨rfl, rfl⟩
      go_wp2_with fail
      refine (Add_any _ _ _ _ ha (addS_u hb h2 h1) h1).mono ?_; rintro e w' ⟨rfl, rfl⟩
      go_wp2_with fail
      refine (Sub_any _ _ _ ha hb).mono ?_; rintro e w' ⟨rfl, rfl⟩
      go_wp2_with fail
      refine (Sub_any _ _ _ (subS_u ha hb) h2).mono ?_; rintro e w' ⟨rfl, rfl⟩
      go_wp2_with fail
      refine (Add_cap _ _ _ hb h2).mono ?_; rintro e w' ⟨rfl, rfl⟩
      go_wp2_with fail
      refine (Sub_any _ _ _ ha (addC_u hb h2)).mono ?_; rintro e w' ⟨rfl, rfl⟩
      go_wp2_with fail
      refine (live_any _).mono ?_; rintro e w1 ⟨rfl, hbl⟩
      go_wp2
      go_ret
      exact ⟨rfl, below_of hbl⟩
    · skip
      go_enter Try.func8, Try.ntmps8
      go_wp2_with fail
      go_quiet ((first | (go_at_call 9; exact quiet_mine (Add_any _ _ _ _ ha hb (by assumption))) | (go_at_call 11; exact quiet_mine (Mul_any _ _ _ _ ha hb (by assumption)))))
      go_wp2_with fail
      refine (Add_any _ _ _ _ ha hb h1).mono ?_; rintro e w' ⟨rfl, rfl⟩
      go_wp2_with fail
      refine (Add_any _ _ _ _ (addS_u ha hb h1) h2 h1).mono ?_; rintro e w' ⟨rfl, rfl⟩
      go_wp2_with fail
      refine (Add_any _ _ _ _ hb h2 h1).mono ?_; rintro e w' ⟨rfl, rfl⟩
      go_wp2_with fail
      refine (Add_any _ _ _ _ ha (addS_u hb h2 h1) h1).mono ?_; rintro e w' ⟨rfl, rfl⟩
      go_wp2_with fail
      refine (Sub_any _ _ _ ha hb).mono ?_; rintro e w' ⟨rfl, rfl⟩
      go_wp2_with fail
      refine (Sub_any _ _ _ (subS_u ha hb) h2).mono ?_; rintro e w' ⟨rfl, rfl⟩
      go_wp2_with fail
      refine (Add_cap _ _ _ hb h2).mono ?_; rintro e w' ⟨rfl, rfl⟩
      go_wp2_with fail
      refine (Sub_any _ _ _ ha (addC_u hb h2)).mono ?_; rintro e w' ⟨rfl, rfl⟩
      go_wp2_with fail
      refine (live_any _).mono ?_; rintro e w1 ⟨rfl, hbl⟩
      go_wp2
      go_ret
      exact ⟨rfl, below_of hbl⟩

theorem own : ownKnob Try.prog.godebug = none := by kernel_rfl
theorem laidOut : laidOutB Try.prog = true := by kernel_rfl
theorem contract (H : Type) (enc : TypeId × Value → H) (W : World) (base : Nat) (args : Array Value) (ds gs : List (DataW H)) (before : List MemPlace)
    (hval : ∀ (j : Nat) t v, Try.f8.params[j]? = some t → args[j]? = some v → Value.okWide Try.prog W .any base t v)
    (hW : DataW.Whole enc Try.prog Try.f8.params.toList Rows.numsCapsSpec.vars false W args.toList ds gs before) :
    Calls Try.prog 8 args W fun e W' => ∃ v, e = .returned v ∧ Rows.numsCapsSpec.post enc Try.prog Try.f8 false true false false W args v W' := by
  have hW' := hW
  obtain ⟨p, q, hA0, hV, rfl, hfz, hnd⟩ := hW
  have hA : DataW.TrodAll enc Try.prog W 0 (fun _ => true) true Try.f8.params.toList args.toList ds p := hA0
  rw [Try.params8] at hA hval
  obtain ⟨v0, vs0, d0, ds0, p0, q0, hargs, rfl, rfl, h0, r0⟩ := trodAll_cons hA
  obtain ⟨v1, vs1, d1, ds1, p1, q1, rfl, rfl, rfl, h1, r1⟩ := trodAll_cons r0
  obtain ⟨v2, vs2, d2, ds2, p2, q2, rfl, rfl, rfl, h2, r2⟩ := trodAll_cons r1
  obtain ⟨rfl, rfl, rfl⟩ := trodAll_nil r2
  obtain rfl : args = #[v0, v1, v2] := by cases args; simp_all
  obtain ⟨rfl, rfl⟩ := trodVars_none hV
  obtain ⟨a0, rfl, rfl, rfl, w0⟩ := open_int Try.underlying22 (hval 0 22 v0 rfl rfl) h0
  obtain ⟨a1, rfl, rfl, rfl, w1⟩ := open_int Try.underlying22 (hval 1 22 v1 rfl rfl) h1
  have k2 := h2
  have lt2 : ∀ x ∈ p2, x.block < W.heap.size := by obtain ⟨m, hm⟩ := k2; exact DataW.trod_lt m _ _ _ hm
  obtain ⟨l2, rfl, hl2, wl2⟩ := open_arr_int Try.underlying43 Try.underlying22 (by kernel_rfl) (by kernel_rfl) (hval 2 43 v2 rfl rfl) h2
  obtain ⟨x2_0, x2_1, x2_2, rfl⟩ : ∃ x2_0 x2_1 x2_2, l2 = [x2_0, x2_1, x2_2] := by
    match l2, hl2 with
    | [x2_0, x2_1, x2_2], _ => exact ⟨x2_0, x2_1, x2_2, rfl⟩
  clear hA0
  refine (walk a0 a1 x2_0 x2_1 x2_2 w0 w1 (wl2 x2_0 (by simp)) (wl2 x2_1 (by simp)) (wl2 x2_2 (by simp)) W).mono fun e W' ⟨he, bel⟩ => ?_
  subst he
  exact ⟨_, rfl, _, _, _, [], _, [], hW', trodAll_mk1 (shut_bool Try.underlying4 _), (trodAll_cons_mk (shut_int Try.underlying22 w0) (trodAll_cons_mk (shut_int Try.underlying22 w1) (trodAll_cons_mk (Below.trod laidOut (by kernel_rfl) (of_decide_eq_true (by kernel_rfl)) k2 bel lt2) trodAll_mk0))), rfl, bel.frame _, fun h => by cases h⟩

set_option maxRecDepth 100000 in
theorem lifted (os : Os) (started : os.Started) (H : Type) (enc : TypeId × Value → H) :
    ReturnsInHanded {} Try.checked os 8 .any (Rows.numsCapsSpec.pre6 enc Try.prog Try.f8 Rows.numsCapsRow.domain false) (Rows.numsCapsSpec.post enc Try.prog Try.f8 false true false false) := by
  refine returnsInHanded_of_change (C := Try.checked) own started (by kernel_rfl) Try.func8
    (ChangeSpec.witness6 (enc := enc) (C := Try.checked) false ⟨#[], #[.int .u64 0, .int .u64 0, .agg #[.int .u64 0, .int .u64 0, .int .u64 0]], []⟩ 8 (by kernel_rfl) (by kernel_rfl) (by kernel_rfl) (by kernel_rfl)) ?_
  intro W base args ds gs before hval hW _ _
  exact contract H enc W base args ds gs before hval hW

theorem over : Rows.numsCapsRow.holds Try.pinned (OpenSpec.ofChange Rows.numsCapsSpec) :=
  OpenClaim.holds_of_wide 8 Try.f8 rfl rfl rfl rfl rfl rfl rfl ⟨rfl, rfl, rfl, rfl, rfl⟩ rfl rfl rfl rfl rfl (by kernel_rfl) Try.func8 (by kernel_rfl)
    (of_decide_eq_true (by kernel_rfl)) (by unfold Func.isWrapper; first | (rw [if_pos (by decide +kernel)]; kernel_rfl) | (rw [if_neg (by decide +kernel)]; exact ⟨rfl, rfl⟩))
    (fun os started H enc _ => lifted os started H enc)
end Go.Proofs.Ytefpgpehncllnab.numsCaps
namespace Go.Proofs.Ytefpgpehncllnab
theorem numsCaps_proved : Rows.NumsCapsSaid := numsCaps.over
end Go.Proofs.Ytefpgpehncllnab

