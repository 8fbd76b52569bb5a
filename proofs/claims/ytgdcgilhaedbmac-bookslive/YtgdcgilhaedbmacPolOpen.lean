/- How a policy that comes in by value is opened. -/
import Derived.Test.YtgdcgilhaedbmacOpen
import Derived.Lib.SmallJoins
namespace Go.Proofs.Ytgdcgilhaedbmac
open Go.Joins Go.ChangeShapes Go.WideShapes Go.ChangeAt Go.RowKit Go.Deep
set_option linter.unusedVariables false

theorem I64.of_wf {a : Int} (h : (Lit.int .i64 a).wf = true) : -9223372036854775808 ≤ a ∧ a ≤ 9223372036854775807 := by
  simpa [Lit.wf, IntKind.min, IntKind.max, IntKind.signed, IntKind.bits] using h
theorem open_pol {w : World} {H : Type} {enc : TypeId × Value → H} {r : Reach} {b0 base : Nat} {spare : Nat → Bool} {held : Bool} {v : Value} {d : DataW H} {p : List MemPlace} (hv : Value.okWide Try.prog w r b0 25 v)
    (h : DataW.Trod enc Try.prog w base spare held 25 v d p) : ∃ k l n b : Int, v = .agg #[.int .i64 k, .int .i64 l, .int .i64 n, .int .i64 b] ∧ (Lit.int .i64 k).wf = true ∧ (Lit.int .i64 l).wf = true ∧ (Lit.int .i64 n).wf = true ∧ (Lit.int .i64 b).wf = true := by
  obtain ⟨v0, v1, v2, v3, y0, y1, y2, y3, n, rfl, _, _, h0, h1, h2, h3⟩ := open_agg4 Try.underlying25 (by kernel_rfl) (by kernel_rfl) hv h
  obtain ⟨a0, e0, _, f0⟩ := DataW.trod_int Try.underlying3 h0
  obtain ⟨a1, e1, _, f1⟩ := DataW.trod_int Try.underlying3 h1
  obtain ⟨a2, e2, _, f2⟩ := DataW.trod_int Try.underlying3 h2
  obtain ⟨a3, e3, _, f3⟩ := DataW.trod_int Try.underlying3 h3
  simp at e0 e1 e2 e3
  subst e0 e1 e2 e3
  exact ⟨a0, a1, a2, a3, rfl, f0, f1, f2, f3⟩
end Go.Proofs.Ytgdcgilhaedbmac
