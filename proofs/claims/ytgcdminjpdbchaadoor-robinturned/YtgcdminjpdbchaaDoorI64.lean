/- Ints of 64 bits. -/
import Derived.Test.YtgcdminjpdbchaaDoorProg
import Derived.WalkKit
import Derived.ProofKit
namespace Go.Proofs.YtgcdminjpdbchaaDoor
set_option linter.unusedVariables false
def I64 (k : Int) : Prop := -9223372036854775808 ≤ k ∧ k ≤ 9223372036854775807
theorem I64.wf {k : Int} (h : I64 k) : (Lit.int .i64 k).wf = true := by
  have := h
  unfold I64 at this
  simp [Lit.wf, IntKind.min, IntKind.max, IntKind.signed, IntKind.bits]
  omega
theorem wf_I64 {k : Int} (h : (Lit.int .i64 k).wf = true) : I64 k := by
  have hx : -9223372036854775808 ≤ k ∧ k ≤ 9223372036854775807 := by simpa [Lit.wf, IntKind.min, IntKind.max, IntKind.signed, IntKind.bits] using h
  exact hx
end Go.Proofs.YtgcdminjpdbchaaDoor
