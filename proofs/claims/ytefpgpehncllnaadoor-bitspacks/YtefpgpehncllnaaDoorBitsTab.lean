/- The table of trailing zeros, as the rows list it, in memory; a world for the rows' witness. -/
import Derived.Test.YtefpgpehncllnaaDoorCards
import Derived.Test.YtefpgpehncllnaaDoorTie
import Derived.Test.YtefpgpehncllnaaDoorBits9
import Derived.Test.YtefpgpehncllnaaDoorOpen
import Derived.Deep.DeepHandedRow
import Derived.Lib.LaidTab
namespace Go.Proofs.YtefpgpehncllnaaDoor
open Go.ChangeShapes Go.WideShapes Go.ChangeAt Go.RowKit
set_option linter.unusedVariables false

theorem gTab : Tryd.prog.globalNamed "math/bits.deBruijn64tab" = some 0 := by kernel_rfl
theorem gTabType : (Tryd.prog.globals[0]?).map (·.type) = some 55 := by kernel_rfl
theorem cellsTab : Tryd.prog.cellsOf 55 = 64 := by kernel_rfl
theorem cellsU8 : Tryd.prog.cellsOf 5 = 1 := by kernel_rfl
theorem tabIs {W : World} (h : laidMetH Tryd.prog [("math/bits.deBruijn64tab", Rows.laid_math_bits_deBruijn64tab)] W) : Lib.TabIs Tryd.prog W "math/bits.deBruijn64tab" .u8 (Lib.deBruijn64tab.map Int.ofNat) :=
  Lib.tabIs_of_head (rest := []) gTab gTabType Tryd.underlying55 Tryd.underlying5 cellsU8 cellsTab h
theorem tabW_of {W : World} (h : laidMetH Tryd.prog [("math/bits.deBruijn64tab", Rows.laid_math_bits_deBruijn64tab)] W) : TabW W := by
  have hc : ∀ j, j < 64 → W.cell? ⟨0, j, none⟩ = some (.int .u8 ((Lib.deBruijn64tab.getD j 0 : Nat) : Int)) := by
    intro j hj
    have := (tabIs h).cell gTab j (by simpa [Lib.deBruijn64tab] using hj)
    rw [this]
    congr 2
    rw [List.getD_eq_getElem?_getD, List.getD_eq_getElem?_getD, List.getElem?_map]
    cases Lib.deBruijn64tab[j]? <;> rfl
  refine ⟨?_, hc⟩
  have h0 := hc 0 (by omega)
  rcases Nat.lt_or_ge 0 W.heap.size with hh | hh
  · exact hh
  · exfalso
    have : W.heap[0]? = none := Array.getElem?_eq_none hh
    simp [World.cell?, this] at h0
noncomputable def laidWorld (os : Os) : World :=
  { World.holding Tryd.prog os ⟨#[], #[], []⟩ with heap := (World.holding Tryd.prog os ⟨#[], #[], []⟩).heap.modify 0 fun
      | .cells _ t frozen => .cells (Lib.deBruijn64tab.map fun (n : Nat) => Value.int .u8 (n : Int)).toArray t frozen
      | o => o }

/-- A slice of integers that came in reads as a list. -/
theorem row_of {k : IntKind} {w : World} {A : Option Addr} {len cap : Nat} {zs : List Int} (h : IsInts k w A len cap zs) :
    len ≤ cap ∧ cap ≤ maxLen ∧ (A = none → cap = 0 ∧ len = 0) ∧ (zs.take len).length = len ∧ (∀ n ∈ zs.take len, (Lit.int k n).wf = true) ∧
      (0 < len → ∃ b off, A = some ⟨b, off, none⟩ ∧ b < w.heap.size ∧ ∀ i, i < len → w.cell? ⟨b, off + i, none⟩ = some (.int k ((zs.take len).getD i 0))) := by
  rcases h with ⟨rfl, rfl, rfl, rfl⟩ | ⟨x, rfl, hl, hm, hz, hc, hw⟩
  · exact ⟨Nat.le_refl _, by unfold maxLen; omega, fun _ => ⟨rfl, rfl⟩, rfl, by simp, fun h => absurd h (by omega)⟩
  · refine ⟨hl, hm, (fun h => by cases h), (by rw [List.length_take]; omega), fun n hn => hw n (List.mem_of_mem_take hn), fun h0 => ?_⟩
    obtain ⟨b, off, spot⟩ := x
    have h1 := hc 0 (by omega)
    have hspot : spot = none := by simpa [Addr.add] using World.cell?_spot h1
    subst hspot
    have hlt : b < w.heap.size := by
      rcases Nat.lt_or_ge b w.heap.size with hh | hh
      · exact hh
      · exfalso
        have : w.heap[b]? = none := Array.getElem?_eq_none hh
        simp [Addr.add, World.cell?, this] at h1
    refine ⟨b, off, rfl, hlt, fun i hi => ?_⟩
    have h2 := hc i (by omega)
    have e2 : (⟨b, off, none⟩ : Addr).add i = ⟨b, off + i, none⟩ := by unfold Addr.add; split <;> simp_all
    rw [e2] at h2
    rw [h2, List.getD_eq_getElem?_getD, List.getD_eq_getElem?_getD, List.getElem?_take, if_pos hi]
theorem wf_u {n : Int} (h : (Lit.int .u64 n).wf = true) : 0 ≤ n ∧ n < 18446744073709551616 := by
  have hx : 0 ≤ n ∧ n ≤ 18446744073709551615 := by simpa [Lit.wf, IntKind.min, IntKind.max, IntKind.signed, IntKind.bits] using h
  omega
theorem wf_i {n : Int} (h : (Lit.int .i64 n).wf = true) : -9223372036854775808 ≤ n ∧ n < 9223372036854775808 := by
  have hx : -9223372036854775808 ≤ n ∧ n ≤ 9223372036854775807 := by simpa [Lit.wf, IntKind.min, IntKind.max, IntKind.signed, IntKind.bits] using h
  omega
theorem words_of {w : World} {A : Option Addr} {len cap : Nat} {zs : List Int} (h : IsInts .u64 w A len cap zs) :
    ∃ ns, Words w A len ns ∧ len ≤ cap ∧ (A = none → cap = 0 ∧ len = 0) ∧ len ≤ 9223372036854775807 := by
  obtain ⟨h1, hm, h2, h3, h4, h5⟩ := row_of h
  refine ⟨(zs.take len).map Int.toNat, ⟨by simpa using h3, ?_, fun h0 => ?_⟩, h1, h2, by unfold maxLen at hm; omega⟩
  · intro x hx
    obtain ⟨z, hz, rfl⟩ := List.mem_map.1 hx
    have := wf_u (h4 z hz)
    omega
  · obtain ⟨b, off, e, hb, hc⟩ := h5 h0
    refine ⟨b, off, e, hb, fun i hi => ?_⟩
    rw [hc i hi]
    have hi2 : i < (zs.take len).length := by omega
    rw [List.getD_eq_getElem?_getD, List.getD_eq_getElem?_getD, List.getElem?_map, List.getElem?_eq_getElem hi2]
    have := wf_u (h4 _ (List.getElem_mem hi2))
    show some (Value.int .u64 (zs.take len)[i]) = some (Value.int .u64 (((zs.take len)[i].toNat : Nat) : Int))
    rw [show (((zs.take len)[i].toNat : Nat) : Int) = (zs.take len)[i] by omega]
theorem ints_of {w : World} {A : Option Addr} {len cap : Nat} {zs : List Int} (h : IsInts .i64 w A len cap zs) : Ints w A len (zs.take len) ∧ len ≤ cap ∧ len ≤ 9223372036854775807 := by
  obtain ⟨h1, hm, h2, h3, h4, h5⟩ := row_of h
  exact ⟨⟨h3, h5⟩, h1, by unfold maxLen at hm; omega⟩
end Go.Proofs.YtefpgpehncllnaaDoor
