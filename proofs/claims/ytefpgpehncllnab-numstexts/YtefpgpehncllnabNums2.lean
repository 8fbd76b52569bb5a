/- The contracts of the document's own answers for sums (sandglassref02.Add, Mul, Sub, Up), for all numbers of 64 bits. -/
import Derived.Test.YtefpgpehncllnabNums1
namespace Go.Proofs.Ytefpgpehncllnab
open Go.ChangeShapes Go.WideShapes Go.ChangeAt Go.RowKit
set_option linter.unusedVariables false

theorem rAdd_any (a b m : Int) (w : World) (ha : U64 a) (hb : U64 b) (hm : U64 m) :
    Calls Try.prog 10 #[.int .u64 a, .int .u64 b, .int .u64 m] w fun e w' => e = .returned (.int .u64 (addS a b m)) ∧ w = w' := by
  by_cases h : m < a
  · have E := Lib.hid (show m = addS a b m by unfold U64 addS at *; omega)
    go_enter Try.func10, Try.ntmps10
    go_wp2
    go_ret
    exact ⟨ret_int E.out, rfl⟩
  · have e : IntKind.u64.wrap (m - a) = m - a := by rw [wrapU]; unfold U64 at *; omega
    by_cases h2 : IntKind.u64.wrap (m - a) < b
    · have E := Lib.hid (show m = addS a b m by rw [e] at h2; unfold U64 addS at *; omega)
      clear e
      go_enter Try.func10, Try.ntmps10
      go_wp2
      go_ret
      exact ⟨ret_int E.out, rfl⟩
    · have E := Lib.hid (show IntKind.u64.wrap (a + b) = addS a b m by rw [e] at h2; rw [wrapU]; unfold U64 addS at *; omega)
      clear e
      go_enter Try.func10, Try.ntmps10
      go_wp2
      go_ret
      exact ⟨ret_int E.out, rfl⟩

theorem rmul_c {a b m : Int} (ha : U64 a) (hb : U64 b) (hm : U64 m) (h0 : ¬ a = 0) (h1 : ¬ b = 0) :
    (IntKind.u64.wrap (m / b) < a → m = mulS a b m) ∧ (¬ IntKind.u64.wrap (m / b) < a → IntKind.u64.wrap (a * b) = mulS a b m) := by
  rw [wrap_id (div_u hm hb)]
  have h3 : b * (m / b) + m % b = m := Int.mul_ediv_add_emod m b
  have h5 : 0 ≤ m % b := Int.emod_nonneg _ h1
  have h6 : m % b < b := Int.emod_lt_of_pos _ (by unfold U64 at *; omega)
  unfold U64 mulS at *
  constructor
  · intro h
    have : (m / b + 1) * b ≤ a * b := Int.mul_le_mul_of_nonneg_right (by omega) (by omega)
    rw [Int.add_mul, Int.mul_comm (m / b) b] at this
    omega
  · intro h
    have : a * b ≤ m / b * b := Int.mul_le_mul_of_nonneg_right (by omega) (by omega)
    rw [Int.mul_comm (m / b) b] at this
    have : 0 ≤ a * b := Int.mul_nonneg (by omega) (by omega)
    rw [wrapU]
    omega

theorem rMul_any (a b m : Int) (w : World) (ha : U64 a) (hb : U64 b) (hm : U64 m) :
    Calls Try.prog 12 #[.int .u64 a, .int .u64 b, .int .u64 m] w fun e w' => e = .returned (.int .u64 (mulS a b m)) ∧ w = w' := by
  by_cases h0 : a = 0
  · have E := Lib.hid (show (0 : Int) = mulS a b m by unfold U64 mulS at *; rw [h0]; simp; omega)
    have t : (a == 0) = true := by simp [h0]
    clear h0
    go_enter Try.func12, Try.ntmps12
    go_wp2
    go_ret
    exact ⟨ret_int E.out, rfl⟩
  · have t : (a == 0) = false := by simp [h0]
    by_cases h1 : b = 0
    · have E := Lib.hid (show (0 : Int) = mulS a b m by unfold U64 mulS at *; rw [h1]; simp; omega)
      have t : (b == 0) = true := by simp [h1]
      clear h0 h1
      go_enter Try.func12, Try.ntmps12
      go_wp2
      go_ret
      exact ⟨ret_int E.out, rfl⟩
    · have t : (b == 0) = false := by simp [h1]
      obtain ⟨e1, e2⟩ := rmul_c ha hb hm h0 h1
      rw [← Int.tdiv_eq_ediv_of_nonneg hm.1] at e1 e2
      by_cases h2 : IntKind.u64.wrap (m.tdiv b) < a
      · have E := Lib.hid (e1 h2)
        clear e1 e2 h0
        go_enter Try.func12, Try.ntmps12
        go_wp2
        go_ret
        exact ⟨ret_int E.out, rfl⟩
      · have E := Lib.hid (e2 h2)
        clear e1 e2 h0
        go_enter Try.func12, Try.ntmps12
        go_wp2
        go_ret
        exact ⟨ret_int E.out, rfl⟩

theorem rSub_any (a b : Int) (w : World) (ha : U64 a) (hb : U64 b) :
    Calls Try.prog 14 #[.int .u64 a, .int .u64 b] w fun e w' => e = .returned (.int .u64 (subS a b)) ∧ w = w' := by
  by_cases h : a < b
  · have E := Lib.hid (show (0 : Int) = subS a b by unfold subS; rw [if_pos h])
    go_enter Try.func14, Try.ntmps14
    go_wp2
    go_ret
    exact ⟨ret_int E.out, rfl⟩
  · have E := Lib.hid (sub_w ha hb (by omega))
    go_enter Try.func14, Try.ntmps14
    go_wp2
    go_ret
    exact ⟨ret_int E.out, rfl⟩

theorem rUp_any (a b : Int) (w : World) (ha : U64 a) (hb : U64 b) :
    Calls Try.prog 16 #[.int .u64 a, .int .u64 b] w fun e w' => e = .returned (.int .u64 (upS a b)) ∧ w = w' := by
  have a0 := ha.1
  have b0 := hb.1
  by_cases h : b = 0
  · have E := Lib.hid (show (0 : Int) = upS a b by unfold upS; rw [if_pos h])
    have t : (b == 0) = true := by simp [h]
    clear h
    go_enter Try.func16, Try.ntmps16
    go_wp2
    go_ret
    exact ⟨ret_int E.out, rfl⟩
  · have t : (b == 0) = false := by simp [h]
    by_cases h2 : a % b = 0
    · have E := Lib.hid (up_c3 ha hb h h2)
      have t2 : (a % b == 0) = true := by simp [h2]
      clear h2
      go_enter Try.func16, Try.ntmps16
      go_wp2
      go_ret
      exact ⟨ret_int (by rw [Int.tdiv_eq_ediv_of_nonneg a0]; exact E.out), rfl⟩
    · have E := Lib.hid (up_c2 ha hb h h2)
      have t2 : (a % b == 0) = false := by simp [h2]
      clear h2
      go_enter Try.func16, Try.ntmps16
      go_wp2
      go_ret
      exact ⟨ret_int (by rw [Int.tdiv_eq_ediv_of_nonneg a0]; exact E.out), rfl⟩
end Go.Proofs.Ytefpgpehncllnab
