/- Plain arithmetic of sums that stop at a cap, and the contracts of nums.Add, Mul, Sub, Up and of the document's own, for all numbers of 64 bits. -/
import Derived.Test.YtljllfopgpmekabProg
import Derived.WalkKit
import Derived.ProofKit
import Derived.OpenShut
import Derived.Lib.Hide
-- prune
namespace Go.Proofs.Ytljllfopgpmekab
open Go.ChangeShapes Go.WideShapes Go.ChangeAt Go.RowKit
set_option linter.unusedVariables false

theorem ret_int {k : IntKind} {a b : Int} (h : a = b) : Ending.returned (.int k a) = .returned (.int k b) := by rw [h]
theorem ret_bool {a b : Bool} (h : a = b) : Ending.returned (.bool a) = .returned (.bool b) := by rw [h]

/-- A number of 64 bits without a sign. -/
def U64 (a : Int) : Prop := 0 ≤ a ∧ a < 18446744073709551616
theorem wrapU (x : Int) : IntKind.u64.wrap x = x % 18446744073709551616 := by
  simp [IntKind.wrap, IntKind.signed, IntKind.bits]
theorem U64.of_wf {a : Int} (h : (Lit.int .u64 a).wf = true) : U64 a := by
  have hx : 0 ≤ a ∧ a ≤ 18446744073709551615 := by simpa [Lit.wf, IntKind.min, IntKind.max, IntKind.signed, IntKind.bits] using h
  unfold U64; omega
theorem U64.nn {a : Int} (h : U64 a) : 0 ≤ a := h.1

def addS (a b m : Int) : Int := min (a + b) m
def mulS (a b m : Int) : Int := min (a * b) m
def subS (a b : Int) : Int := if a < b then 0 else a - b
def upS (a b : Int) : Int := if b = 0 then 0 else if a % b = 0 then a / b else a / b + 1

theorem addS_u {a b m : Int} (ha : U64 a) (hb : U64 b) (hm : U64 m) : U64 (addS a b m) := by unfold U64 addS at *; omega
theorem mulS_u {a b m : Int} (ha : U64 a) (hb : U64 b) (hm : U64 m) : U64 (mulS a b m) := by
  have : 0 ≤ a * b := Int.mul_nonneg ha.1 hb.1
  unfold U64 mulS at *; omega
theorem subS_u {a b : Int} (ha : U64 a) (hb : U64 b) : U64 (subS a b) := by unfold U64 subS at *; split <;> omega

theorem add_c1 {a b m : Int} (ha : U64 a) (hb : U64 b) (hm : U64 m) (h : IntKind.u64.wrap (a + b) < a) : m = addS a b m := by
  rw [wrapU] at h; unfold U64 addS at *; omega
theorem add_c2 {a b m : Int} (ha : U64 a) (hb : U64 b) (hm : U64 m) (h : a ≤ IntKind.u64.wrap (a + b)) (h2 : m < IntKind.u64.wrap (a + b)) : m = addS a b m := by
  rw [wrapU] at h h2; unfold U64 addS at *; omega
theorem add_c3 {a b m : Int} (ha : U64 a) (hb : U64 b) (hm : U64 m) (h : a ≤ IntKind.u64.wrap (a + b)) (h2 : IntKind.u64.wrap (a + b) ≤ m) : IntKind.u64.wrap (a + b) = addS a b m := by
  rw [wrapU] at h h2 ⊢; unfold U64 addS at *; omega

/-- What Mul reckons, step by step. -/
def midS (a b : Int) : Int := IntKind.u64.wrap (IntKind.u64.wrap (a / 4294967296 * (b % 4294967296)) + IntKind.u64.wrap (a % 4294967296 * (b / 4294967296)))

theorem mid_eq {a b : Int} (ha : U64 a) (hb : U64 b) (h : a / 4294967296 = 0 ∨ b / 4294967296 = 0) :
    midS a b = a / 4294967296 * (b % 4294967296) + a % 4294967296 * (b / 4294967296) ∧ 0 ≤ a / 4294967296 * (b % 4294967296) + a % 4294967296 * (b / 4294967296) := by
  unfold midS U64 at *
  simp only [wrapU]
  have h1 : ∀ x y : Int, 0 ≤ x → x < 4294967296 → 0 ≤ y → y < 4294967296 → 0 ≤ x * y ∧ x * y < 18446744073709551616 := by
    intro x y hx hx' hy hy'
    have a1 := Int.mul_nonneg hx hy
    have a2 : x * y ≤ 4294967295 * y := Int.mul_le_mul_of_nonneg_right (by omega) hy
    omega
  have p1 := h1 (a / 4294967296) (b % 4294967296) (by omega) (by omega) (by omega) (by omega)
  have p2 := h1 (a % 4294967296) (b / 4294967296) (by omega) (by omega) (by omega) (by omega)
  generalize hA : a / 4294967296 * (b % 4294967296) = A at *
  generalize hB : a % 4294967296 * (b / 4294967296) = B at *
  rcases h with h | h
  · rw [h] at hA; simp at hA; omega
  · rw [h] at hB; simp at hB; omega

theorem mul_split (a b : Int) (h : a / 4294967296 = 0 ∨ b / 4294967296 = 0) :
    a * b = (a / 4294967296 * (b % 4294967296) + a % 4294967296 * (b / 4294967296)) * 4294967296 + (a % 4294967296) * (b % 4294967296) := by
  have e1 : a = a / 4294967296 * 4294967296 + a % 4294967296 := by omega
  have e2 : b = b / 4294967296 * 4294967296 + b % 4294967296 := by omega
  generalize a / 4294967296 = x at *
  generalize a % 4294967296 = y at *
  generalize b / 4294967296 = z at *
  generalize b % 4294967296 = t at *
  subst e1; subst e2
  rcases h with rfl | rfl <;> simp [Int.mul_add, Int.mul_assoc, Int.mul_comm, Int.mul_left_comm, Int.add_comm]

theorem mul_c1 {a b m : Int} (ha : U64 a) (hb : U64 b) (hm : U64 m) (h1 : a / 4294967296 ≠ 0) (h2 : b / 4294967296 ≠ 0) : m = mulS a b m := by
  unfold U64 mulS at *
  have h : (4294967296 : Int) * 4294967296 ≤ a * b := Int.mul_le_mul (by omega) (by omega) (by omega) (by omega)
  omega
theorem mul_c2 {a b m : Int} (ha : U64 a) (hb : U64 b) (hm : U64 m) (h : a / 4294967296 = 0 ∨ b / 4294967296 = 0) (h2 : midS a b / 4294967296 ≠ 0) : m = mulS a b m := by
  obtain ⟨e, e0⟩ := mid_eq ha hb h
  have s := mul_split a b h
  have l : 0 ≤ (a % 4294967296) * (b % 4294967296) := Int.mul_nonneg (by omega) (by omega)
  rw [e] at h2
  unfold U64 mulS at *
  rw [s]
  omega
theorem mul_c3 {a b m : Int} (ha : U64 a) (hb : U64 b) (hm : U64 m) (h : a / 4294967296 = 0 ∨ b / 4294967296 = 0) (h2 : midS a b / 4294967296 = 0) :
    addS (midS a b % 4294967296 * 4294967296) (IntKind.u64.wrap (a % 4294967296 * (b % 4294967296))) m = mulS a b m := by
  obtain ⟨e, e0⟩ := mid_eq ha hb h
  have s := mul_split a b h
  have l : 0 ≤ (a % 4294967296) * (b % 4294967296) := Int.mul_nonneg (by omega) (by omega)
  have l2 : (a % 4294967296) * (b % 4294967296) ≤ 4294967295 * (b % 4294967296) := Int.mul_le_mul_of_nonneg_right (by omega) (by omega)
  rw [wrapU]
  unfold U64 mulS addS at *
  rw [s]
  rw [e] at h2 ⊢
  generalize (a % 4294967296) * (b % 4294967296) = L at *
  generalize a / 4294967296 * (b % 4294967296) + a % 4294967296 * (b / 4294967296) = M at *
  have : M % 4294967296 = M := by omega
  rw [this, Int.emod_eq_of_lt l (by omega)]
theorem mul_args {a b : Int} : U64 (midS a b % 4294967296 * 4294967296) ∧ U64 (IntKind.u64.wrap (a % 4294967296 * (b % 4294967296))) := by
  rw [wrapU]; unfold U64; omega

theorem sub_w {a b : Int} (ha : U64 a) (hb : U64 b) (h : b ≤ a) : IntKind.u64.wrap (a - b) = subS a b := by
  rw [wrapU]; unfold U64 subS at *; rw [if_neg (by omega)]; omega
theorem div_u {a b : Int} (ha : U64 a) (hb : U64 b) : U64 (a / b) := by
  unfold U64 at *
  have := Int.ediv_le_self b ha.1
  have := Int.ediv_nonneg ha.1 hb.1
  omega
theorem wrap_id {a : Int} (h : U64 a) : IntKind.u64.wrap a = a := by rw [wrapU]; unfold U64 at h; omega
theorem up_c2 {a b : Int} (ha : U64 a) (hb : U64 b) (h1 : ¬ b = 0) (h2 : a % b ≠ 0) : IntKind.u64.wrap (IntKind.u64.wrap (a / b) + 1) = upS a b := by
  rw [wrap_id (div_u ha hb)]
  unfold upS; rw [if_neg h1, if_neg h2, wrap_id]
  have := div_u ha hb
  unfold U64 at *
  by_cases hb1 : b = 1
  · subst hb1; simp at h2
  · have h3 : b * (a / b) + a % b = a := Int.mul_ediv_add_emod a b
    have h5 : 0 ≤ a % b := Int.emod_nonneg _ h1
    have h4 : 2 * (a / b) ≤ b * (a / b) := Int.mul_le_mul_of_nonneg_right (by omega) this.1
    omega
theorem up_c3 {a b : Int} (ha : U64 a) (hb : U64 b) (h1 : ¬ b = 0) (h2 : a % b = 0) : IntKind.u64.wrap (a / b) = upS a b := by
  rw [wrap_id (div_u ha hb)]
  unfold upS; rw [if_neg h1, if_pos h2]
theorem upS_u {a b : Int} (ha : U64 a) (hb : U64 b) : U64 (upS a b) := by
  by_cases h1 : b = 0
  · unfold upS U64; rw [if_pos h1]; omega
  · by_cases h2 : a % b = 0
    · rw [← up_c3 ha hb h1 h2, wrapU]; unfold U64; omega
    · rw [← up_c2 ha hb h1 h2, wrapU]; unfold U64; omega

end Go.Proofs.Ytljllfopgpmekab
