/- A slab, as the words of the document have it; how it lies in memory. -/
import Derived.Test.YtbmapjbjpgoibaaMem2
namespace Go.Proofs.Ytbmapjbjpgoibaa
open Go.ChangeShapes Go.WideShapes Go.ChangeAt Go.RowKit
set_option linter.unusedVariables false

theorem ret_int {k : IntKind} {a b : Int} (h : a = b) : Ending.returned (.int k a) = .returned (.int k b) := by rw [h]
theorem ret_bool {a b : Bool} (h : a = b) : Ending.returned (.bool a) = .returned (.bool b) := by rw [h]
theorem val_int {k : IntKind} {a b : Int} (h : a = b) : Value.int k a = Value.int k b := by rw [h]
/-- All are words of 64 bits. -/
def AllW (ns : List Nat) : Prop := ∀ n ∈ ns, n < 18446744073709551616

theorem flatMap_get {α β : Type} (f : α → List β) (m : Nat) (hm : ∀ a, (f a).length = m) (l : List α) (i j : Nat) (hj : j < m) : (l.flatMap f)[i * m + j]? = (l[i]?).bind fun a => (f a)[j]? := by
  induction l generalizing i with
  | nil => simp
  | cons a l ih =>
    rw [List.flatMap_cons]
    cases i with
    | zero => rw [List.getElem?_append_left (by rw [hm]; omega)]; simp
    | succ i =>
      rw [List.getElem?_append_right (by rw [hm, Nat.add_mul]; omega), hm, show (i + 1) * m + j - m = i * m + j by rw [Nat.add_mul]; omega, ih]
      simp
theorem flatMap_set {α β : Type} (f : α → List β) (m : Nat) (hm : ∀ a, (f a).length = m) (l : List α) (i j : Nat) (hj : j < m) (a a' : α) (v : β) (ha : l[i]? = some a) (hv : (f a).set j v = f a') :
    (l.flatMap f).set (i * m + j) v = (l.set i a').flatMap f := by
  induction l generalizing i with
  | nil => simp at ha
  | cons b l ih =>
    rw [List.flatMap_cons]
    cases i with
    | zero =>
      simp at ha
      subst ha
      rw [List.set_append_left _ _ (by rw [hm]; omega)]
      simp [hv]
    | succ i =>
      rw [List.set_append_right _ _ (by rw [hm, Nat.add_mul]; omega), hm, show (i + 1) * m + j - m = i * m + j by rw [Nat.add_mul]; omega, ih i (by simpa using ha)]
      simp
theorem flatMap_len {α β : Type} (f : α → List β) (m : Nat) (hm : ∀ a, (f a).length = m) (l : List α) : (l.flatMap f).length = l.length * m := by
  induction l with
  | nil => simp
  | cons a l ih => rw [List.flatMap_cons, List.length_append, hm, ih, List.length_cons, Nat.add_mul]; omega

/-- A cell: is it taken, its generation, the block of its words, its words. -/
structure SC where
  taken : Bool
  gen : Nat
  blk : Nat
  ws : List Nat
/-- A slab: its cells, and the row of those that are free, its first one last. -/
structure Sl where
  cells : List SC
  free : List Nat
def scV (k : Nat) (c : SC) : List Value := [.bool c.taken, .int .i64 (c.gen : Int), .slice (some ⟨c.blk, 0, none⟩) k k]
theorem scV_len (k : Nat) (c : SC) : (scV k c).length = 3 := rfl
def flat (k : Nat) (l : List SC) : List Value := l.flatMap (scV k)
def intsV (l : List Nat) : List Value := l.map fun (i : Nat) => .int .i64 (i : Int)
def wordsV (l : List Nat) : List Value := l.map fun (i : Nat) => .int .u64 (i : Int)

structure IsSlab (w : World) (bP bC bF k : Nat) (s : Sl) : Prop where
  hd : Has w bP 56 [.slice (some ⟨bC, 0, none⟩) s.cells.length s.cells.length, .slice (some ⟨bF, 0, none⟩) s.free.length s.cells.length]
  cs : Has w bC 58 (flat k s.cells)
  fr : ∃ rest, Has w bF 3 (intsV s.free ++ rest) ∧ s.free.length + rest.length = s.cells.length
  ws : ∀ c ∈ s.cells, Has w c.blk 49 (wordsV c.ws) ∧ c.ws.length = k ∧ AllW c.ws
  nd : (bP :: bC :: bF :: s.cells.map SC.blk).Nodup
  n1 : 1 ≤ s.cells.length
  n64 : s.cells.length ≤ 64
  k32 : k ≤ 32
  fi : ∀ i ∈ s.free, i < s.cells.length
  gn : ∀ c ∈ s.cells, c.gen ≤ 1000000

/-- The blocks of a slab. -/
def foot (bP bC bF : Nat) (s : Sl) (b : Nat) : Prop := b = bP ∨ b = bC ∨ b = bF ∨ ∃ c ∈ s.cells, b = c.blk

/-- The cell of a handle, if it is good. -/
def Sl.find (s : Sl) (h : Int) : Option Nat :=
  if h < 0 then none else
    match s.cells[(h % 64).toNat]? with
    | none => none
    | some c => if c.taken = true ∧ (c.gen : Int) * 64 + h % 64 = h then some (h % 64).toNat else none

theorem Sl.find_some {s : Sl} {h : Int} {i : Nat} (e : s.find h = some i) : ∃ (m : Nat) (c : SC), h = m ∧ (m : Int) % 64 = i ∧ i < 64 ∧ s.cells[i]? = some c ∧ c.taken = true ∧ (c.gen : Int) * 64 + i = m := by
  unfold Sl.find at e
  by_cases h0 : h < 0
  · rw [if_pos h0] at e; cases e
  · rw [if_neg h0] at e
    obtain ⟨m, rfl⟩ := Int.eq_ofNat_of_zero_le (show 0 ≤ h by omega)
    cases hc : s.cells[((m : Int) % 64).toNat]? with
    | none => rw [hc] at e; cases e
    | some c =>
      rw [hc] at e
      simp only at e
      by_cases h2 : c.taken = true ∧ (c.gen : Int) * 64 + (m : Int) % 64 = m
      · rw [if_pos h2] at e
        injection e with e
        subst e
        exact ⟨m, c, rfl, by omega, by omega, hc, h2.1, by have := h2.2; omega⟩
      · rw [if_neg h2] at e; cases e
theorem Sl.find_none {s : Sl} {h : Int} (e : s.find h = none) : h < 0 ∨ ∃ m i : Nat, h = m ∧ (m : Int) % 64 = i ∧ i < 64 ∧ (s.cells.length ≤ i ∨ ∃ c, s.cells[i]? = some c ∧ (c.taken = false ∨ (c.taken = true ∧ (c.gen : Int) * 64 + i ≠ m))) := by
  unfold Sl.find at e
  by_cases h0 : h < 0
  · exact .inl h0
  · rw [if_neg h0] at e
    obtain ⟨m, rfl⟩ := Int.eq_ofNat_of_zero_le (show 0 ≤ h by omega)
    refine .inr ⟨m, ((m : Int) % 64).toNat, rfl, by omega, by omega, ?_⟩
    cases hc : s.cells[((m : Int) % 64).toNat]? with
    | none => exact .inl (List.getElem?_eq_none_iff.1 hc)
    | some c =>
      rw [hc] at e
      simp only at e
      refine .inr ⟨c, rfl, ?_⟩
      by_cases h2 : c.taken = true ∧ (c.gen : Int) * 64 + (m : Int) % 64 = m
      · rw [if_pos h2] at e; cases e
      · cases ht : c.taken with
        | false => exact .inl rfl
        | true => exact .inr ⟨rfl, fun h3 => h2 ⟨ht, by omega⟩⟩

section
variable {w w' : World} {bP bC bF k : Nat} {s : Sl}
theorem IsSlab.p0 (h : IsSlab w bP bC bF k s) : w.cell? ⟨bP, 0, none⟩ = some (.slice (some ⟨bC, 0, none⟩) s.cells.length s.cells.length) := h.hd.cell 0
theorem IsSlab.p1 (h : IsSlab w bP bC bF k s) : w.cell? ⟨bP, 1, none⟩ = some (.slice (some ⟨bF, 0, none⟩) s.free.length s.cells.length) := h.hd.cell 1
theorem IsSlab.c0 (h : IsSlab w bP bC bF k s) {i : Nat} {c : SC} (hc : s.cells[i]? = some c) : w.cell? ⟨bC, i * 3, none⟩ = some (.bool c.taken) := by
  have := h.cs.cell (i * 3 + 0)
  rw [flat, flatMap_get _ 3 (scV_len k) _ _ _ (by omega), hc] at this
  exact this
theorem IsSlab.c1 (h : IsSlab w bP bC bF k s) {i : Nat} {c : SC} (hc : s.cells[i]? = some c) : w.cell? ⟨bC, i * 3 + 1, none⟩ = some (.int .i64 (c.gen : Int)) := by
  have := h.cs.cell (i * 3 + 1)
  rw [flat, flatMap_get _ 3 (scV_len k) _ _ _ (by omega), hc] at this
  exact this
theorem IsSlab.c2 (h : IsSlab w bP bC bF k s) {i : Nat} {c : SC} (hc : s.cells[i]? = some c) : w.cell? ⟨bC, i * 3 + 2, none⟩ = some (.slice (some ⟨c.blk, 0, none⟩) k k) := by
  have := h.cs.cell (i * 3 + 2)
  rw [flat, flatMap_get _ 3 (scV_len k) _ _ _ (by omega), hc] at this
  exact this
theorem IsSlab.f (h : IsSlab w bP bC bF k s) {j i : Nat} (hj : s.free[j]? = some i) : w.cell? ⟨bF, j, none⟩ = some (.int .i64 (i : Int)) := by
  obtain ⟨rest, h1, _⟩ := h.fr
  have := h1.cell j
  have hl : j < s.free.length := (List.getElem?_eq_some_iff.1 hj).1
  rw [List.getElem?_append_left (by simpa [intsV] using hl), intsV, List.getElem?_map, hj] at this
  exact this
theorem IsSlab.kept {F : Nat → Prop} (h : IsSlab w bP bC bF k s) (hk : Kept F w w') (hF : ∀ b, foot bP bC bF s b → ¬ F b) : IsSlab w' bP bC bF k s := by
  obtain ⟨rest, h1, h2⟩ := h.fr
  exact ⟨h.hd.kept hk (hF _ (.inl rfl)), h.cs.kept hk (hF _ (.inr (.inl rfl))), ⟨rest, h1.kept hk (hF _ (.inr (.inr (.inl rfl)))), h2⟩,
    fun c hc => ⟨(h.ws c hc).1.kept hk (hF _ (.inr (.inr (.inr ⟨c, hc, rfl⟩)))), (h.ws c hc).2⟩, h.nd, h.n1, h.n64, h.k32, h.fi, h.gn⟩
theorem IsSlab.foot_lt (h : IsSlab w bP bC bF k s) {b : Nat} (hb : foot bP bC bF s b) : b < w.heap.size := by
  rcases hb with rfl | rfl | rfl | ⟨c, hc, rfl⟩
  · exact h.hd.lt
  · exact h.cs.lt
  · obtain ⟨rest, h1, _⟩ := h.fr; exact h1.lt
  · exact (h.ws c hc).1.lt
theorem IsSlab.below (h : IsSlab w bP bC bF k s) (hb : Below w.heap.size w w') : IsSlab w' bP bC bF k s :=
  h.kept (F := fun _ => False) (Kept.of_below hb) (fun _ _ => id)
end
end Go.Proofs.Ytbmapjbjpgoibaa
