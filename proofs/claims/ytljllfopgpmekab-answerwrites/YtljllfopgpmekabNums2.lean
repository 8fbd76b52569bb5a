/- The contracts of the document's own answers for sums (sandglassref02.Add, Mul, Sub, Up), for all numbers of 64 bits. -/
import Derived.Test.YtljllfopgpmekabNums1
-- prune
namespace Go.Proofs.Ytljllfopgpmekab
open Go.ChangeShapes Go.WideShapes Go.ChangeAt Go.RowKit
set_option linter.unusedVariables false

theorem rmul_c {a b m : Int} (ha : U64 a) (hb : U64 b) (hm : U64 m) (h0 : ¬ a = 0) (h1 : ¬ b = 0) :
    (IntKind.u64.wrap (m / b) < a → m = mulS a b m) ∧ (¬ IntKind.u64.wrap (m / b) < a → IntKind.u64.wrap (a * b) = mulS a b m) := by
  rw [wrap_id (div_u hm hb)]
  have h3 : b * (m / b) + m % b = m := Int.mul_ediv_add_emod m b
  have h5 : 0 ≤ m % b := Int.emod_nonneg _ h1
  have h6 : m % b < b := Int.emod_lt_of_pos _ (by unfold U64 at *; omega)
  unfold U64 mulS at *
  constructor
  · intro h
    have : (m / b + 1) * b ≤ a * b := Int.mul_le_mul_of_nonneg_right (by omega) (by omega)
    rw [Int.add_mul, Int.mul_comm (m / b) b] at this
    omega
  · intro h
    have : a * b ≤ m / b * b := Int.mul_le_mul_of_nonneg_right (by omega) (by omega)
    rw [Int.mul_comm (m / b) b] at this
    have : 0 ≤ a * b := Int.mul_nonneg (by omega) (by omega)
    rw [wrapU]
    omega

end Go.Proofs.Ytljllfopgpmekab
