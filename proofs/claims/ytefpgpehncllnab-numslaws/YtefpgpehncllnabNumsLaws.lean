/- For every three numbers of 64 bits the law NumsLaws returns true: sums and products of nums go either way about, stop at their cap, and the quotient that is rounded up is the least that is enough. No condition. -/
import Derived.Test.YtefpgpehncllnabRows
import Derived.Test.YtefpgpehncllnabNums7
import Derived.Test.YtefpgpehncllnabOpen
namespace Go.Proofs.Ytefpgpehncllnab.numsLaws
open Go.ChangeShapes Go.WideShapes Go.ChangeAt Go.RowKit
open Go.ChangeMaps (open_string shut_string)
set_option linter.unusedVariables false

/-- A product, at most the greatest number of 64 bits. -/
def mulC (a b : Int) : Int := mulS a b 18446744073709551615
theorem Mul_cap (a b : Int) (w : World) (ha : U64 a) (hb : U64 b) :
    Calls Try.prog 11 #[.int .u64 a, .int .u64 b, .int .u64 18446744073709551615] w fun e w' => e = .returned (.int .u64 (mulC a b)) ∧ w = w' :=
  Mul_any a b _ w ha hb (by unfold U64; omega)

theorem u0 : U64 0 := by unfold U64; omega
theorem u1 : U64 1 := by unfold U64; omega
theorem uw (x : Int) : U64 (IntKind.u64.wrap x) := by rw [wrapU]; unfold U64; omega

theorem f1 (a b m : Int) : (addS a b m != addS b a m) = false := by simp [addS, Int.add_comm]
theorem f2 (a b m : Int) : (mulS a b m != mulS b a m) = false := by simp [mulS, Int.mul_comm]
theorem f3 (a b m : Int) : addS a b m ≤ m := by unfold addS; omega
theorem f4 (a b m : Int) : mulS a b m ≤ m := by unfold mulS; omega
theorem f5 {a b m : Int} (ha : U64 a) (hb : U64 b) (h : addS a b m < m) : (subS (addS a b m) a != b) = false ∧ (subS (addS a b m) b != a) = false ∧ a ≤ addS a b m := by
  have e : addS a b m = a + b := by unfold addS at *; omega
  rw [e]
  unfold U64 subS at *
  rw [if_neg (by omega), if_neg (by omega)]
  refine ⟨?_, ?_, by omega⟩ <;> simp <;> omega
theorem f6 {a m : Int} (ha : U64 a) (hm : U64 m) : mulS a 1 m = min a m := by unfold mulS; rw [Int.mul_one]
theorem f7 {a m : Int} (ha : U64 a) (hm : U64 m) : addS a 0 m = min a m := by unfold addS; rw [Int.add_zero]
theorem f8 {a b m : Int} (hm : U64 m) (h : b = 0) : (mulS a b m == 0) = true ∧ (upS a b == 0) = true := by
  subst h; unfold mulS upS U64 at *; simp; omega
theorem f9 {a b : Int} (ha : U64 a) (hb : U64 b) (h : ¬ b = 0) : a ≤ mulC (upS a b) b := by
  unfold mulC mulS upS U64 at *
  rw [if_neg h]
  have h3 : b * (a / b) + a % b = a := Int.mul_ediv_add_emod a b
  have h6 : a % b < b := Int.emod_lt_of_pos _ (by omega)
  split
  · rw [Int.mul_comm]; omega
  · rw [Int.add_mul, Int.mul_comm (a / b) b]; omega
theorem f10 {a b : Int} (ha : U64 a) (hb : U64 b) (h : ¬ b = 0) (hq : ¬ upS a b = 0) : mulC (IntKind.u64.wrap (upS a b - 1)) b < a := by
  have hu := upS_u ha hb
  have e : IntKind.u64.wrap (upS a b - 1) = upS a b - 1 := by rw [wrapU]; unfold U64 at *; omega
  rw [e]
  unfold mulC mulS
  unfold upS at *
  rw [if_neg h] at hq ⊢
  rw [if_neg h] at hu
  have h3 : b * (a / b) + a % b = a := Int.mul_ediv_add_emod a b
  have h5 : 0 ≤ a % b := Int.emod_nonneg _ h
  unfold U64 at *
  split
  · rename_i h2
    rw [if_pos h2] at hq
    rw [Int.sub_mul, Int.mul_comm (a / b) b]; omega
  · rename_i h2
    rw [Int.add_sub_cancel, Int.mul_comm (a / b) b]; omega

theorem f6' {a m : Int} (ha : U64 a) (hm : U64 m) : (a ≤ m → (mulS a 1 m != a) = false ∧ (addS a 0 m != a) = false) ∧ (m < a → (mulS a 1 m != m) = false ∧ (addS a 0 m != m) = false) := by
  rw [f6 ha hm, f7 ha hm]
  constructor
  · intro h; have : min a m = a := by omega
    simp [this]
  · intro h; have : min a m = m := by omega
    simp [this]

theorem walk (a b m : Int) (wa : (Lit.int .u64 a).wf = true) (wb : (Lit.int .u64 b).wf = true) (wm : (Lit.int .u64 m).wf = true) (w : World) :
    Calls Try.prog 7 #[.int .u64 a, .int .u64 b, .int .u64 m] w fun e w' => e = .returned (.bool true) ∧ Below w.heap.size w w' := by
  have ha := U64.of_wf wa
  have hb := U64.of_wf wb
  have hm := U64.of_wf wm
  clear wa wb wm
  have uS := addS_u ha hb hm
  have uQ := upS_u ha hb
  have t1 := f1 a b m
  have t2 := f2 a b m
  have t3 := f3 a b m
  have t4 := f4 a b m
  have T6 := Lib.hid (f6' ha hm)
  go_enter Try.func7, Try.ntmps7
  go_wp2_with fail
  refine (Add_any _ _ _ _ ha hb hm).mono ?_; rintro e w' ⟨rfl, rfl⟩
  go_wp2_with fail
  refine (Mul_any _ _ _ _ ha hb hm).mono ?_; rintro e w' ⟨rfl, rfl⟩
  go_wp2_with fail
  refine (Add_any _ _ _ _ hb ha hm).mono ?_; rintro e w' ⟨rfl, rfl⟩
  go_wp2_with fail
  refine (Mul_any _ _ _ _ hb ha hm).mono ?_; rintro e w' ⟨rfl, rfl⟩
  go_wp2_with fail
  · obtain ⟨s1, s2, s3⟩ := f5 ha hb (show addS a b m < m by assumption)
    refine (Sub_any _ _ _ uS ha).mono ?_; rintro e w' ⟨rfl, rfl⟩
    go_wp2_with fail
    refine (Sub_any _ _ _ uS hb).mono ?_; rintro e w' ⟨rfl, rfl⟩
    go_wp2_with fail
    obtain ⟨t6, t7⟩ := T6.out.1 (by assumption)
    refine (Mul_any _ _ _ _ ha u1 hm).mono ?_; rintro e w' ⟨rfl, rfl⟩
    go_wp2_with fail
    refine (Add_any _ _ _ _ ha u0 hm).mono ?_; rintro e w' ⟨rfl, rfl⟩
    by_cases hz : b = 0
    · obtain ⟨z1, z2⟩ := f8 (a := a) hm hz
      have z3 : (b == 0) = true := by simp [hz]
      clear hz
      go_wp2_with fail
      refine (Up_any _ _ _ ha hb).mono ?_; rintro e w' ⟨rfl, rfl⟩
      go_wp2_with fail
      refine (live_any _).mono ?_; rintro e w1 ⟨rfl, hbl⟩
      go_wp2
      go_ret
      exact ⟨rfl, hbl⟩
    · have z3 : (b == 0) = false := by simp [hz]
      have z4 := f9 ha hb hz
      by_cases hq : upS a b = 0
      · have z5 : (upS a b == 0) = true := by simp [hq]
        clear hz hq
        go_wp2_with fail
        refine (Up_any _ _ _ ha hb).mono ?_; rintro e w' ⟨rfl, rfl⟩
        go_wp2_with fail
        refine (Mul_cap _ _ _ uQ hb).mono ?_; rintro e w' ⟨rfl, rfl⟩
        go_wp2_with fail
        refine (live_any _).mono ?_; rintro e w1 ⟨rfl, hbl⟩
        go_wp2
        go_ret
        exact ⟨rfl, hbl⟩
      · have z5 : (upS a b == 0) = false := by simp [hq]
        have z6 := f10 ha hb hz hq
        clear hz hq
        go_wp2_with fail
        refine (Up_any _ _ _ ha hb).mono ?_; rintro e w' ⟨rfl, rfl⟩
        go_wp2_with fail
        refine (Mul_cap _ _ _ uQ hb).mono ?_; rintro e w' ⟨rfl, rfl⟩
        go_wp2_with fail
        refine (Mul_cap _ _ _ (uw _) hb).mono ?_; rintro e w' ⟨rfl, rfl⟩
        go_wp2_with fail
        refine (live_any _).mono ?_; rintro e w1 ⟨rfl, hbl⟩
        go_wp2
        go_ret
        exact ⟨rfl, hbl⟩
  · skip
    obtain ⟨t6, t7⟩ := T6.out.1 (by assumption)
    refine (Mul_any _ _ _ _ ha u1 hm).mono ?_; rintro e w' ⟨rfl, rfl⟩
    go_wp2_with fail
    refine (Add_any _ _ _ _ ha u0 hm).mono ?_; rintro e w' ⟨rfl, rfl⟩
    by_cases hz : b = 0
    · obtain ⟨z1, z2⟩ := f8 (a := a) hm hz
      have z3 : (b == 0) = true := by simp [hz]
      clear hz
      go_wp2_with fail
      refine (Up_any _ _ _ ha hb).mono ?_; rintro e w' ⟨rfl, rfl⟩
      go_wp2_with fail
      refine (live_any _).mono ?_; rintro e w1 ⟨rfl, hbl⟩
      go_wp2
      go_ret
      exact ⟨rfl, hbl⟩
    · have z3 : (b == 0) = false := by simp [hz]
      have z4 := f9 ha hb hz
      by_cases hq : upS a b = 0
      · have z5 : (upS a b == 0) = true := by simp [hq]
        clear hz hq
        go_wp2_with fail
        refine (Up_any _ _ _ ha hb).mono ?_; rintro e w' ⟨rfl, rfl⟩
        go_wp2_with fail
        refine (Mul_cap _ _ _ uQ hb).mono ?_; rintro e w' ⟨rfl, rfl⟩
        go_wp2_with fail
        refine (live_any _).mono ?_; rintro e w1 ⟨rfl, hbl⟩
        go_wp2
        go_ret
        exact ⟨rfl, hbl⟩
      · have z5 : (upS a b == 0) = false := by simp [hq]
        have z6 := f10 ha hb hz hq
        clear hz hq
        go_wp2_with fail
        refine (Up_any _ _ _ ha hb).mono ?_; rintro e w' ⟨rfl, rfl⟩
        go_wp2_with fail
        refine (Mul_cap _ _ _ uQ hb).mono ?_; rintro e w' ⟨rfl, rfl⟩
        go_wp2_with fail
        refine (Mul_cap _ _ _ (uw _) hb).mono ?_; rintro e w' ⟨rfl, rfl⟩
        go_wp2_with fail
        refine (live_any _).mono ?_; rintro e w1 ⟨rfl, hbl⟩
        go_wp2
        go_ret
        exact ⟨rfl, hbl⟩
  · skip
    obtain ⟨t6, t7⟩ := T6.out.1 (by assumption)
    refine (Mul_any _ _ _ _ ha u1 hm).mono ?_; rintro e w' ⟨rfl, rfl⟩
    go_wp2_with fail
    refine (Add_any _ _ _ _ ha u0 hm).mono ?_; rintro e w' ⟨rfl, rfl⟩
    by_cases hz : b = 0
    · obtain ⟨z1, z2⟩ := f8 (a := a) hm hz
      have z3 : (b == 0) = true := by simp [hz]
      clear hz
      go_wp2_with fail
      refine (Up_any _ _ _ ha hb).mono ?_; rintro e w' ⟨rfl, rfl⟩
      go_wp2_with fail
      refine (live_any _).mono ?_; rintro e w1 ⟨rfl, hbl⟩
      go_wp2
      go_ret
      exact ⟨rfl, hbl⟩
    · have z3 : (b == 0) = false := by simp [hz]
      have z4 := f9 ha hb hz
      by_cases hq : upS a b = 0
      · have z5 : (upS a b == 0) = true := by simp [hq]
        clear hz hq
        go_wp2_with fail
        refine (Up_any _ _ _ ha hb).mono ?_; rintro e w' ⟨rfl, rfl⟩
        go_wp2_with fail
        refine (Mul_cap _ _ _ uQ hb).mono ?_; rintro e w' ⟨rfl, rfl⟩
        go_wp2_with fail
        refine (live_any _).mono ?_; rintro e w1 ⟨rfl, hbl⟩
        go_wp2
        go_ret
        exact ⟨rfl, hbl⟩
      · have z5 : (upS a b == 0) = false := by simp [hq]
        have z6 := f10 ha hb hz hq
        clear hz hq
        go_wp2_with fail
        refine (Up_any _ _ _ ha hb).mono ?_; rintro e w' ⟨rfl, rfl⟩
        go_wp2_with fail
        refine (Mul_cap _ _ _ uQ hb).mono ?_; rintro e w' ⟨rfl, rfl⟩
        go_wp2_with fail
        refine (Mul_cap _ _ _ (uw _) hb).mono ?_; rintro e w' ⟨rfl, rfl⟩
        go_wp2_with fail
        refine (live_any _).mono ?_; rintro e w1 ⟨rfl, hbl⟩
        go_wp2
        go_ret
        exact ⟨rfl, hbl⟩
  · skip
    obtain ⟨t6, t7⟩ := T6.out.2 (by assumption)
    refine (Mul_any _ _ _ _ ha u1 hm).mono ?_; rintro e w' ⟨rfl, rfl⟩
    go_wp2_with fail
    refine (Add_any _ _ _ _ ha u0 hm).mono ?_; rintro e w' ⟨rfl, rfl⟩
    by_cases hz : b = 0
    · obtain ⟨z1, z2⟩ := f8 (a := a) hm hz
      have z3 : (b == 0) = true := by simp [hz]
      clear hz
      go_wp2_with fail
      refine (Up_any _ _ _ ha hb).mono ?_; rintro e w' ⟨rfl, rfl⟩
      go_wp2_with fail
      refine (live_any _).mono ?_; rintro e w1 ⟨rfl, hbl⟩
      go_wp2
      go_ret
      exact ⟨rfl, hbl⟩
    · have z3 : (b == 0) = false := by simp [hz]
      have z4 := f9 ha hb hz
      by_cases hq : upS a b = 0
      · have z5 : (upS a b == 0) = true := by simp [hq]
        clear hz hq
        go_wp2_with fail
        refine (Up_any _ _ _ ha hb).mono ?_; rintro e w' ⟨rfl, rfl⟩
        go_wp2_with fail
        refine (Mul_cap _ _ _ uQ hb).mono ?_; rintro e w' ⟨rfl, rfl⟩
        go_wp2_with fail
        refine (live_any _).mono ?_; rintro e w1 ⟨rfl, hbl⟩
        go_wp2
        go_ret
        exact ⟨rfl, hbl⟩
      · have z5 : (upS a b == 0) = false := by simp [hq]
        have z6 := f10 ha hb hz hq
        clear hz hq
        go_wp2_with fail
        refine (Up_any _ _ _ ha hb).mono ?_; rintro e w' ⟨rfl, rfl⟩
        go_wp2_with fail
        refine (Mul_cap _ _ _ uQ hb).mono ?_; rintro e w' ⟨rfl, rfl⟩
        go_wp2_with fail
        refine (Mul_cap _ _ _ (uw _) hb).mono ?_; rintro e w' ⟨rfl, rfl⟩
        go_wp2_with fail
        refine (live_any _).mono ?_; rintro e w1 ⟨rfl, hbl⟩
        go_wp2
        go_ret
        exact ⟨rfl, hbl⟩

theorem own : ownKnob Try.prog.godebug = none := by kernel_rfl
theorem laidOut : laidOutB Try.prog = true := by kernel_rfl
theorem contract (H : Type) (enc : TypeId × Value → H) (W : World) (base : Nat) (args : Array Value) (ds gs : List (DataW H)) (before : List MemPlace)
    (hval : ∀ (j : Nat) t v, Try.f7.params[j]? = some t → args[j]? = some v → Value.okWide Try.prog W .any base t v)
    (hW : DataW.Whole enc Try.prog Try.f7.params.toList Rows.numsLawsSpec.vars false W args.toList ds gs before) :
    Calls Try.prog 7 args W fun e W' => ∃ v, e = .returned v ∧ Rows.numsLawsSpec.post enc Try.prog Try.f7 false true false false W args v W' := by
  have hW' := hW
  obtain ⟨p, q, hA0, hV, rfl, hfz, hnd⟩ := hW
  have hA : DataW.TrodAll enc Try.prog W 0 (fun _ => true) true Try.f7.params.toList args.toList ds p := hA0
  rw [Try.params7] at hA hval
  obtain ⟨v0, vs0, d0, ds0, p0, q0, hargs, rfl, rfl, h0, r0⟩ := trodAll_cons hA
  obtain ⟨v1, vs1, d1, ds1, p1, q1, rfl, rfl, rfl, h1, r1⟩ := trodAll_cons r0
  obtain ⟨v2, vs2, d2, ds2, p2, q2, rfl, rfl, rfl, h2, r2⟩ := trodAll_cons r1
  obtain ⟨rfl, rfl, rfl⟩ := trodAll_nil r2
  obtain rfl : args = #[v0, v1, v2] := by cases args; simp_all
  obtain ⟨rfl, rfl⟩ := trodVars_none hV
  obtain ⟨a0, rfl, rfl, rfl, w0⟩ := open_int Try.underlying22 (hval 0 22 v0 rfl rfl) h0
  obtain ⟨a1, rfl, rfl, rfl, w1⟩ := open_int Try.underlying22 (hval 1 22 v1 rfl rfl) h1
  obtain ⟨a2, rfl, rfl, rfl, w2⟩ := open_int Try.underlying22 (hval 2 22 v2 rfl rfl) h2
  clear hA0
  refine (walk a0 a1 a2 w0 w1 w2 W).mono fun e W' ⟨he, bel⟩ => ?_
  subst he
  exact ⟨_, rfl, _, _, _, [], _, [], hW', trodAll_mk1 (shut_bool Try.underlying4 _), (trodAll_cons_mk (shut_int Try.underlying22 w0) (trodAll_cons_mk (shut_int Try.underlying22 w1) (trodAll_cons_mk (shut_int Try.underlying22 w2) trodAll_mk0))), rfl, bel.frame _, fun h => by cases h⟩

set_option maxRecDepth 100000 in
theorem lifted (os : Os) (started : os.Started) (H : Type) (enc : TypeId × Value → H) :
    ReturnsInHanded {} Try.checked os 7 .any (Rows.numsLawsSpec.pre6 enc Try.prog Try.f7 Rows.numsLawsRow.domain false) (Rows.numsLawsSpec.post enc Try.prog Try.f7 false true false false) := by
  refine returnsInHanded_of_change (C := Try.checked) own started (by kernel_rfl) Try.func7
    (ChangeSpec.witness6 (enc := enc) (C := Try.checked) false ⟨#[], #[.int .u64 0, .int .u64 0, .int .u64 0], []⟩ 8 (by kernel_rfl) (by kernel_rfl) (by kernel_rfl) (by kernel_rfl)) ?_
  intro W base args ds gs before hval hW _ _
  exact contract H enc W base args ds gs before hval hW

theorem over : Rows.numsLawsRow.holds Try.pinned (OpenSpec.ofChange Rows.numsLawsSpec) :=
  OpenClaim.holds_of_wide 7 Try.f7 rfl rfl rfl rfl rfl rfl rfl ⟨rfl, rfl, rfl, rfl, rfl⟩ rfl rfl rfl rfl rfl (by kernel_rfl) Try.func7 (by kernel_rfl)
    (of_decide_eq_true (by kernel_rfl)) (by unfold Func.isWrapper; first | (rw [if_pos (by decide +kernel)]; kernel_rfl) | (rw [if_neg (by decide +kernel)]; exact ⟨rfl, rfl⟩))
    (fun os started H enc _ => lifted os started H enc)
end Go.Proofs.Ytefpgpehncllnab.numsLaws
namespace Go.Proofs.Ytefpgpehncllnab
theorem numsLaws_proved : Rows.NumsLawsSaid := numsLaws.over
end Go.Proofs.Ytefpgpehncllnab

