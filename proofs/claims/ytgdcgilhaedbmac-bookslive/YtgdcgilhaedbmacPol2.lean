/- The contracts of policy.Slot, Span, Weighs and of the document's own Check, Slot, Span, Weighs. WRITTEN BY gen_pol2.py. -/
import Derived.Test.YtgdcgilhaedbmacPol1
-- prune
namespace Go.Proofs.Ytgdcgilhaedbmac
open Go.ChangeShapes Go.WideShapes Go.ChangeAt Go.RowKit
set_option linter.unusedVariables false

theorem bcell {W w1 : World} (hb : Below W.heap.size W w1) : (∀ b o, b < W.heap.size → w1.cell? ⟨b, o, none⟩ = W.cell? ⟨b, o, none⟩) ∧ (∀ b o, b < W.heap.size → w1.frozen? ⟨b, o, none⟩ = W.frozen? ⟨b, o, none⟩) :=
  ⟨fun b o h => hb.cell (p := ⟨b, o, none⟩) h, fun b o h => hb.frozen (p := ⟨b, o, none⟩) h⟩
/-- A policy's four cells, in a block, and what was there ahead of it. -/
structure PolAt (w0 : World) (g : Nat) (k l v b : Int) (w : World) : Prop where
  d0 : w.cell? ⟨g, 0, none⟩ = some (.int .i64 k)
  d1 : w.cell? ⟨g, 1, none⟩ = some (.int .i64 l)
  d2 : w.cell? ⟨g, 2, none⟩ = some (.int .i64 v)
  d3 : w.cell? ⟨g, 3, none⟩ = some (.int .i64 b)
  be : Below w0.heap.size w0 w
  sz : g < w.heap.size
theorem PolAt.made (w : World) (k l v b : Int) (t : TypeId) : PolAt w w.heap.size k l v b (w.alloc (.cells #[.int .i64 k, .int .i64 l, .int .i64 v, .int .i64 b] t)) :=
  ⟨by go_simp, by go_simp, by go_simp, by go_simp, (Below.refl _ _).alloc (Nat.le_refl _) _, by simp⟩
theorem PolAt.step {w0 w w' : World} {g : Nat} {k l v b : Int} (h : PolAt w0 g k l v b w) (hb : Below w.heap.size w w') : PolAt w0 g k l v b w' :=
  ⟨(hb.cell (p := ⟨g, 0, none⟩) h.sz).trans h.d0, (hb.cell (p := ⟨g, 1, none⟩) h.sz).trans h.d1, (hb.cell (p := ⟨g, 2, none⟩) h.sz).trans h.d2, (hb.cell (p := ⟨g, 3, none⟩) h.sz).trans h.d3, h.be.trans (hb.mono h.be.size), Nat.lt_of_lt_of_le h.sz hb.size⟩

set_option maxHeartbeats 4000000 in
theorem rCheck_yes (k l v b : Int) (w : World) (h : MayP k l v b) : Calls Try.prog 23 #[.agg #[.int .i64 k, .int .i64 l, .int .i64 v, .int .i64 b]] w fun e w' => e = .returned (.int .i64 0) ∧ Below w.heap.size w w' := by
  obtain ⟨h1, h2, h3, h4, h5, h6, h7, h8, h9⟩ := h
  have hk : k = 1 ∨ k = 2 ∨ k = 3 ∨ k = 4 := by omega
  rcases hk with rfl | rfl | rfl | rfl
  · obtain rfl := h8 (by decide)
    clear h7 h8 h9
    (go_enter Try.func23, Try.ntmps23; go_wp2; go_ret; exact ⟨rfl, (Below.refl _ _).alloc (Nat.le_refl _) _⟩)
  · obtain rfl := h8 (by decide)
    clear h7 h8 h9
    (go_enter Try.func23, Try.ntmps23; go_wp2; go_ret; exact ⟨rfl, (Below.refl _ _).alloc (Nat.le_refl _) _⟩)
  · obtain ⟨a, c, d⟩ := h9 rfl
    have t : (v % b != 0) = false := by simp [d]
    clear h7 h8 h9 d
    (go_enter Try.func23, Try.ntmps23; go_wp2; go_ret; exact ⟨rfl, (Below.refl _ _).alloc (Nat.le_refl _) _⟩)
  · obtain rfl := h8 (by decide)
    have h7' := h7 rfl
    clear h7 h8 h9
    (go_enter Try.func23, Try.ntmps23; go_wp2; go_ret; exact ⟨rfl, (Below.refl _ _).alloc (Nat.le_refl _) _⟩)
set_option maxHeartbeats 4000000 in
theorem rCheck_no (k l v b : Int) (w : World) (h : ¬ MayP k l v b) : Calls Try.prog 23 #[.agg #[.int .i64 k, .int .i64 l, .int .i64 v, .int .i64 b]] w fun e w' => e = .returned (.int .i64 1) ∧ Below w.heap.size w w' := by
  unfold MayP at h
  by_cases h0 : 1 ≤ k ∧ k ≤ 4 ∧ 1 ≤ l ∧ l ≤ 1048576 ∧ 1 ≤ v ∧ v ≤ 1048576
  · obtain ⟨h1, h2, h5, h6, h3, h4⟩ := h0
    have hk : k = 1 ∨ k = 2 ∨ k = 3 ∨ k = 4 := by omega
    rcases hk with rfl | rfl | rfl | rfl
    · have t : (b != 0) = true := by simp; omega
      clear h
      (go_enter Try.func23, Try.ntmps23; go_wp2; go_ret; exact ⟨rfl, (Below.refl _ _).alloc (Nat.le_refl _) _⟩)
    · have t : (b != 0) = true := by simp; omega
      clear h
      (go_enter Try.func23, Try.ntmps23; go_wp2; go_ret; exact ⟨rfl, (Below.refl _ _).alloc (Nat.le_refl _) _⟩)
    · by_cases hb : 1 ≤ b
      · by_cases hb2 : b ≤ 16
        · have t : (v % b != 0) = true := by simp; intro e; exact h ⟨h1, h2, h3, h4, h5, h6, by omega, by omega, fun _ => ⟨hb, hb2, e⟩⟩
          clear h
          (go_enter Try.func23, Try.ntmps23; go_wp2; go_ret; exact ⟨rfl, (Below.refl _ _).alloc (Nat.le_refl _) _⟩)
        · clear h
          (go_enter Try.func23, Try.ntmps23; go_wp2; go_ret; exact ⟨rfl, (Below.refl _ _).alloc (Nat.le_refl _) _⟩)
      · clear h
        (go_enter Try.func23, Try.ntmps23; go_wp2; go_ret; exact ⟨rfl, (Below.refl _ _).alloc (Nat.le_refl _) _⟩)
    · by_cases hl : l ≤ 16
      · have t : (b != 0) = true := by simp; omega
        clear h
        (go_enter Try.func23, Try.ntmps23; go_wp2; go_ret; exact ⟨rfl, (Below.refl _ _).alloc (Nat.le_refl _) _⟩)
      · clear h
        (go_enter Try.func23, Try.ntmps23; go_wp2; go_ret; exact ⟨rfl, (Below.refl _ _).alloc (Nat.le_refl _) _⟩)
  · clear h
    have h' : k < 1 ∨ (1 ≤ k ∧ 4 < k) ∨ (1 ≤ k ∧ k ≤ 4 ∧ l < 1) ∨ (1 ≤ k ∧ k ≤ 4 ∧ 1 ≤ l ∧ 1048576 < l) ∨ (1 ≤ k ∧ k ≤ 4 ∧ 1 ≤ l ∧ l ≤ 1048576 ∧ v < 1) ∨ (1 ≤ k ∧ k ≤ 4 ∧ 1 ≤ l ∧ l ≤ 1048576 ∧ 1 ≤ v ∧ 1048576 < v) := by omega
    clear h0
    rcases h' with h | ⟨h, h1⟩ | ⟨h, h1, h2⟩ | ⟨h, h1, h2, h3⟩ | ⟨h, h1, h2, h3, h4⟩ | ⟨h, h1, h2, h3, h4, h5⟩ <;>
    (go_enter Try.func23, Try.ntmps23; go_wp2; go_ret; exact ⟨rfl, (Below.refl _ _).alloc (Nat.le_refl _) _⟩)
/-- How many ticks a bucket lasts. -/
def slotI (k v b : Int) : Int := if k = 3 then v / b else v
end Go.Proofs.Ytgdcgilhaedbmac
