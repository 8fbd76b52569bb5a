/- The table of steps, as the rows list it, in memory; a world for the rows' witness; what live tells. -/
import Derived.Test.YtgcdminjpdbchaaDoorCards
import Derived.Test.YtgcdminjpdbchaaDoorTie
import Derived.Test.YtgcdminjpdbchaaDoorHash2
import Derived.Test.YtgcdminjpdbchaaDoorOpen
import Derived.Deep.DeepHandedRow
import Derived.Deep.Strs
import Derived.Lib.LaidTab
namespace Go.Proofs.YtgcdminjpdbchaaDoor
open Go.ChangeShapes Go.WideShapes Go.ChangeAt Go.RowKit
set_option linter.unusedVariables false

theorem gTab : Tryd.prog.globalNamed "sandglass/hash.steps" = some 0 := by kernel_rfl
theorem gTabType : (Tryd.prog.globals[0]?).map (·.type) = some 100 := by kernel_rfl
theorem cellsTab : Tryd.prog.cellsOf 100 = 9 := by kernel_rfl
theorem cellsStep : Tryd.prog.cellsOf 99 = 3 := by kernel_rfl
theorem cellsU : Tryd.prog.cellsOf 58 = 1 := by kernel_rfl
theorem cellsU64 : Tryd.prog.cellsOf 22 = 1 := by kernel_rfl

theorem step_cells {H : Type} {enc : TypeId × Value → H} {w : World} {base : Nat} {sp : Nat → Bool} {held : Bool} {fuel : Nat} {v0 v1 v2 : Value} {z0 z1 z2 : Int} {p : List MemPlace}
    (h : DataW.trod enc Tryd.prog w base sp held fuel 99 [v0, v1, v2] = some (.agg [.lit (.int .u64 z0), .lit (.int .u64 z1), .lit (.int .u64 z2)], p)) : v0 = .int .u64 z0 ∧ v1 = .int .u64 z1 ∧ v2 = .int .u64 z2 := by
  obtain ⟨y0, y1, y2, n, hx, _, h0, h1, h2⟩ := Deep.trod_struct3 Tryd.underlying99 h
  simp only [cellsU, cellsU64] at h0 h1 h2
  obtain ⟨a0, e0, d0, _⟩ := DataW.trod_int Tryd.underlying58 h0
  obtain ⟨a1, e1, d1, _⟩ := DataW.trod_int Tryd.underlying22 h1
  obtain ⟨a2, e2, d2, _⟩ := DataW.trod_int Tryd.underlying22 h2
  simp at e0 e1 e2
  subst d0 d1 d2
  simp at hx
  obtain ⟨⟨rfl, rfl, rfl⟩, _⟩ := hx
  exact ⟨e0, e1, e2⟩
theorem tabW_of {W : World} (h : laidMetH Tryd.prog [("sandglass/hash.steps", Rows.laid_sandglass_hash_steps)] W) : TabW W := by
  have h' : laidMet Tryd.prog [("sandglass/hash.steps", Rows.laid_sandglass_hash_steps)] W := h
  obtain ⟨ps, ⟨g', t', cs, fuel, p, q, hg', ht', hvar, hd, _, _⟩, _⟩ := h'
  obtain rfl := Option.some.inj (gTab.symm.trans hg')
  obtain rfl := Option.some.inj (gTabType.symm.trans ht')
  have hcell := fun off => World.var?_cell gTab hvar off
  obtain ⟨xs, m, _, hx, hl, hxl, hi⟩ := DataW.trod_array Tryd.underlying100 hd
  rw [cellsTab] at hl
  obtain ⟨v0, v1, v2, v3, v4, v5, v6, v7, v8, hcs⟩ : ∃ v0 v1 v2 v3 v4 v5 v6 v7 v8, cs.toList = [v0, v1, v2, v3, v4, v5, v6, v7, v8] := by
    match cs.toList, hl with
    | [v0, v1, v2, v3, v4, v5, v6, v7, v8], _ => exact ⟨v0, v1, v2, v3, v4, v5, v6, v7, v8, rfl⟩
  obtain ⟨x0, x1, x2, rfl⟩ : ∃ x0 x1 x2, xs = [x0, x1, x2] := by
    match xs, hxl with
    | [x0, x1, x2], _ => exact ⟨x0, x1, x2, rfl⟩
  have i0 := hi 0 (by decide)
  have i1 := hi 1 (by decide)
  have i2 := hi 2 (by decide)
  rw [cellsStep, hcs] at i0 i1 i2
  simp only [Rows.laid_sandglass_hash_steps] at hx
  simp at hx i0 i1 i2
  obtain ⟨⟨hx0, hx1, hx2⟩, _⟩ := hx
  obtain ⟨d0, p0⟩ := x0
  obtain ⟨d1, p1⟩ := x1
  obtain ⟨d2, p2⟩ := x2
  simp at hx0 hx1 hx2
  subst hx0 hx1 hx2
  obtain ⟨rfl, rfl, rfl⟩ := step_cells i0
  obtain ⟨rfl, rfl, rfl⟩ := step_cells i1
  obtain ⟨rfl, rfl, rfl⟩ := step_cells i2
  have hc : ∀ off, W.cell? ⟨0, off, none⟩ = cs.toList[off]? := fun off => by rw [hcell off]; simp
  rw [hcs] at hc
  refine ⟨?_, hc 0, hc 1, hc 2, hc 3, hc 4, hc 5, hc 6, hc 7, hc 8⟩
  have h0 := hc 0
  rcases Nat.lt_or_ge 0 W.heap.size with hh | hh
  · exact hh
  · exfalso
    have : W.heap[0]? = none := Array.getElem?_eq_none hh
    simp [World.cell?, this] at h0
noncomputable def laidWorld (os : Os) : World :=
  { World.holding Tryd.prog os ⟨#[], #[], []⟩ with heap := (World.holding Tryd.prog os ⟨#[], #[], []⟩).heap.modify 0 fun
      | .cells _ t frozen => .cells #[.int .u64 32, .int .u64 11400714819323198485, .int .u64 17428512612931826493, .int .u64 29, .int .u64 13787848793156543929, .int .u64 10871156337175269513, .int .u64 32, .int .u64 1, .int .u64 1] t frozen
      | o => o }
theorem wf_u {n : Int} (h : (Lit.int .u64 n).wf = true) : ∃ k : Nat, n = k ∧ U k := by
  have hx : 0 ≤ n ∧ n ≤ 18446744073709551615 := by simpa [Lit.wf, IntKind.min, IntKind.max, IntKind.signed, IntKind.bits] using h
  exact ⟨n.toNat, by omega, by unfold U; omega⟩
theorem wf_i {n : Int} (h : (Lit.int .i64 n).wf = true) : -9223372036854775808 ≤ n ∧ n < 9223372036854775808 := by
  have hx : -9223372036854775808 ≤ n ∧ n ≤ 9223372036854775807 := by simpa [Lit.wf, IntKind.min, IntKind.max, IntKind.signed, IntKind.bits] using h
  omega
end Go.Proofs.YtgcdminjpdbchaaDoor
