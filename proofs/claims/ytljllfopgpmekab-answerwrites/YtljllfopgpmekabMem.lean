/- Words for memory that a call makes: a block whose cells are all known, and a row of integers laid out by a function. -/
import Derived.Test.YtljllfopgpmekabProg
import Derived.WalkKit
import Derived.ProofKit
import Derived.OpenShut
import Derived.Below
import Derived.Laws.OwnMore
import Derived.Laws.Rows
import Derived.Lib.Hide
namespace Go.Proofs.Ytljllfopgpmekab
open Go.ChangeShapes Go.WideShapes Go.ChangeAt Go.RowKit
set_option linter.unusedVariables false

/-- Block g is just these cells, of elements of type t; none of them is frozen. -/
def Has (w : World) (g : Nat) (t : TypeId) (l : List Value) : Prop := w.heap[g]? = some (.cells l.toArray t (0, 0))

theorem Has.lt {w : World} {g : Nat} {t : TypeId} {l : List Value} (h : Has w g t l) : g < w.heap.size := by
  unfold Has at h
  rcases Nat.lt_or_ge g w.heap.size with hh | hh
  · exact hh
  · rw [Array.getElem?_eq_none hh] at h; cases h
theorem Has.cell {w : World} {g : Nat} {t : TypeId} {l : List Value} (h : Has w g t l) (i : Nat) : w.cell? ⟨g, i, none⟩ = l[i]? := by
  rw [cell_of_row w g i l.toArray t (0, 0) h]; simp
theorem Has.loose {w : World} {g : Nat} {t : TypeId} {l : List Value} (h : Has w g t l) (i : Nat) : w.frozen? ⟨g, i, none⟩ = false := by
  unfold Has at h; simp [World.frozen?, h]
theorem Has.made (w : World) (t : TypeId) (l : List Value) : Has (w.alloc (.cells l.toArray t)) w.heap.size t l := by
  show (w.heap.push _)[w.heap.size]? = _
  simp
theorem Has.alloc {w : World} {g : Nat} {t : TypeId} {l : List Value} (h : Has w g t l) (o : Obj) : Has (w.alloc o) g t l := by
  have := h.lt
  unfold Has at *
  rw [Below.heap_alloc w o g this]; exact h
theorem Has.store {w : World} {g : Nat} {t : TypeId} {l : List Value} (h : Has w g t l) (i : Nat) (u : Value) : Has (w.setCell ⟨g, i, none⟩ u) g t (l.set i u) := by
  unfold Has at *
  simp [World.setCell, Array.getElem?_modify, h]
theorem Has.apart {w : World} {g : Nat} {t : TypeId} {l : List Value} (h : Has w g t l) {p : Addr} (hp : g ≠ p.block) (u : Value) : Has (w.setCell p u) g t l := by
  unfold Has at *
  rw [Below.heap_setCell w p u g hp]; exact h
theorem Has.below {w w' : World} {B g : Nat} {t : TypeId} {l : List Value} (h : Has w g t l) (hb : Below B w w') (hg : g < B) : Has w' g t l := by
  unfold Has at *
  rw [hb.block g hg]; exact h

/-- A row of k integers, the i-th one f i. -/
def rowF (kd : IntKind) (f : Nat → Int) (k : Nat) : List Value := (List.range k).map fun i => .int kd (f i)
theorem rowF_len (kd : IntKind) (f : Nat → Int) (k : Nat) : (rowF kd f k).length = k := by simp [rowF]
theorem rowF_get (kd : IntKind) (f : Nat → Int) (k i : Nat) (h : i < k) : (rowF kd f k)[i]? = some (.int kd (f i)) := by
  simp [rowF, h]
theorem rowF_set (kd : IntKind) (f : Nat → Int) (k j : Nat) (v : Int) : (rowF kd f k).set j (.int kd v) = rowF kd (fun i => if i = j then v else f i) k := by
  apply List.ext_getElem?
  intro i
  rw [List.getElem?_set]
  by_cases hi : i < k
  · rw [rowF_get _ _ _ _ hi, rowF_get _ _ _ _ hi]
    by_cases e : j = i
    · subst e; simp [rowF_len, hi]
    · simp [e, Ne.symm e]
  · have : (rowF kd f k)[i]? = none := by simp [rowF]; omega
    have h2 : (rowF kd (fun i => if i = j then v else f i) k)[i]? = none := by simp [rowF]; omega
    rw [this, h2]
    by_cases e : j = i
    · subst e; simp [rowF_len, hi]
    · simp [e]
theorem rowF_congr (kd : IntKind) {f g : Nat → Int} {k : Nat} (h : ∀ i, i < k → f i = g i) : rowF kd f k = rowF kd g k := by
  unfold rowF
  apply List.map_congr_left
  intro i hi
  rw [h i (by simpa using hi)]
theorem madeRow (kd : IntKind) (z : Int) (k : Nat) : madeCells #[.int kd z] k = (rowF kd (fun _ => z) k).toArray := by
  simp only [madeCells, rowF]
  apply Array.ext'
  simp [Array.toList_map, Nat.mod_one]
end Go.Proofs.Ytljllfopgpmekab
