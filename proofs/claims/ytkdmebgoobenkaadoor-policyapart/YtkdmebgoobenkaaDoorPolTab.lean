/- The table of widths, as the rows list it, in memory; a world for the rows' witness; how a policy that comes in is opened. -/
import Derived.Test.YtkdmebgoobenkaaDoorCards
import Derived.Test.YtkdmebgoobenkaaDoorTie
import Derived.Test.YtkdmebgoobenkaaDoorPol6
import Derived.Test.YtkdmebgoobenkaaDoorPolOpen
import Derived.Deep.DeepHandedRow
import Derived.Lib.LaidTab
namespace Go.Proofs.YtkdmebgoobenkaaDoor
open Go.ChangeShapes Go.WideShapes Go.ChangeAt Go.RowKit
set_option linter.unusedVariables false

theorem gTab : Tryd.prog.globalNamed "sandglass/policy.widths" = some 0 := by kernel_rfl
theorem gTabType : (Tryd.prog.globals[0]?).map (·.type) = some 38 := by kernel_rfl
theorem cellsTab : Tryd.prog.cellsOf 38 = 4 := by kernel_rfl
theorem cellsI : Tryd.prog.cellsOf 3 = 1 := by kernel_rfl
theorem cell_int {H : Type} {enc : TypeId × Value → H} {w : World} {base : Nat} {sp : Nat → Bool} {held : Bool} {fuel : Nat} {v : Value} {z : Int} {p : List MemPlace}
    (h : DataW.trod enc Tryd.prog w base sp held fuel 3 [v] = some (.lit (.int .i64 z), p)) : v = .int .i64 z := by
  obtain ⟨a0, e0, d0, _⟩ := DataW.trod_int Tryd.underlying3 h
  simp at e0 d0
  rw [e0, d0.1]
theorem tabW_of {W : World} (h : laidMetH Tryd.prog [("sandglass/policy.widths", Rows.laid_sandglass_policy_widths)] W) : TabW W := by
  have h' : laidMet Tryd.prog [("sandglass/policy.widths", Rows.laid_sandglass_policy_widths)] W := h
  obtain ⟨ps, ⟨g', t', cs, fuel, p, q, hg', ht', hvar, hd, _, _⟩, _⟩ := h'
  obtain rfl := Option.some.inj (gTab.symm.trans hg')
  obtain rfl := Option.some.inj (gTabType.symm.trans ht')
  have hcell := fun off => World.var?_cell gTab hvar off
  obtain ⟨xs, m, _, hx, hl, hxl, hi⟩ := DataW.trod_array Tryd.underlying38 hd
  rw [cellsTab] at hl
  obtain ⟨v0, v1, v2, v3, hcs⟩ : ∃ v0 v1 v2 v3, cs.toList = [v0, v1, v2, v3] := by
    match cs.toList, hl with
    | [v0, v1, v2, v3], _ => exact ⟨v0, v1, v2, v3, rfl⟩
  obtain ⟨x0, x1, x2, x3, rfl⟩ : ∃ x0 x1 x2 x3, xs = [x0, x1, x2, x3] := by
    match xs, hxl with
    | [x0, x1, x2, x3], _ => exact ⟨x0, x1, x2, x3, rfl⟩
  have i0 := hi 0 (by decide)
  have i1 := hi 1 (by decide)
  have i2 := hi 2 (by decide)
  have i3 := hi 3 (by decide)
  rw [cellsI, hcs] at i0 i1 i2 i3
  simp only [Rows.laid_sandglass_policy_widths] at hx
  simp at hx i0 i1 i2 i3
  obtain ⟨⟨hx0, hx1, hx2, hx3⟩, _⟩ := hx
  obtain ⟨d0, p0⟩ := x0
  obtain ⟨d1, p1⟩ := x1
  obtain ⟨d2, p2⟩ := x2
  obtain ⟨d3, p3⟩ := x3
  simp at hx0 hx1 hx2 hx3
  subst hx0 hx1 hx2 hx3
  obtain rfl := cell_int i0
  obtain rfl := cell_int i1
  obtain rfl := cell_int i2
  obtain rfl := cell_int i3
  have hc : ∀ off, W.cell? ⟨0, off, none⟩ = cs.toList[off]? := fun off => by rw [hcell off]; simp
  rw [hcs] at hc
  refine ⟨?_, hc 0, hc 1, hc 2, hc 3⟩
  have h0 := hc 0
  rcases Nat.lt_or_ge 0 W.heap.size with hh | hh
  · exact hh
  · exfalso
    have : W.heap[0]? = none := Array.getElem?_eq_none hh
    simp [World.cell?, this] at h0
noncomputable def laidWorld (os : Os) : World :=
  { World.holding Tryd.prog os ⟨#[], #[], []⟩ with heap := (World.holding Tryd.prog os ⟨#[], #[], []⟩).heap.modify 0 fun
      | .cells _ t frozen => .cells #[.int .i64 1, .int .i64 4, .int .i64 4, .int .i64 1] t frozen
      | o => o }
end Go.Proofs.YtkdmebgoobenkaaDoor
