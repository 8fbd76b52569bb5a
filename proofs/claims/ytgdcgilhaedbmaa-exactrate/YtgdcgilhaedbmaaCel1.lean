/- What an ask tells of cells with lists; the document's Few; blocks of four cells. -/
import Derived.Test.YtgdcgilhaedbmaaCel0
import Derived.Test.YtgdcgilhaedbmaaGc0
-- prune
namespace Go.Proofs.Ytgdcgilhaedbmaa
open Go.ChangeShapes Go.WideShapes Go.ChangeAt Go.RowKit
set_option linter.unusedVariables false

/-- A block's four cells. -/
theorem Has.four {w : World} {g : Nat} {t : TypeId} {a b c d : Value} (h : Has w g t [a, b, c, d]) : w.cell? ⟨g, 0, none⟩ = some a ∧ w.cell? ⟨g, 1, none⟩ = some b ∧ w.cell? ⟨g, 2, none⟩ = some c ∧ w.cell? ⟨g, 3, none⟩ = some d := ⟨h.cell 0, h.cell 1, h.cell 2, h.cell 3⟩
theorem Has.step {w w' : World} {g : Nat} {t : TypeId} {l : List Value} (h : Has w g t l) (hb : Below w.heap.size w w') : Has w' g t l := h.below hb h.lt
theorem Below.two {w0 w : World} (h : Below w0.heap.size w0 w) (a b : Obj) : Below w0.heap.size w0 ((w.alloc a).alloc b) := (h.alloc h.size a).alloc (by have := h.size; simp; omega) b
theorem made2 (w : World) (t t' : TypeId) (l : List Value) (o : Obj) : Has ((w.alloc o).alloc (.cells l.toArray t)) (w.heap.size + 1) t l := by
  have := Has.made (w.alloc o) t l
  simpa using this
theorem made1 (w : World) (t : TypeId) (l : List Value) (o : Obj) : Has ((w.alloc (.cells l.toArray t)).alloc o) w.heap.size t l := (Has.made w t l).alloc o
theorem calls_eqB {f : Nat} {args : Array Value} {w : World} {a b : Value} (h : Calls Try.prog f args w fun e w' => e = .returned a ∧ Below w.heap.size w w') (e : a = b) : Calls Try.prog f args w fun e w' => e = .returned b ∧ Below w.heap.size w w' := by subst e; exact h
/-- What an ask tells: a cell of these numbers and lists, and a verdict. -/
def Tells (T H : Int) (sn : Nat) (f : Nat → Int) (hn : Nat) (g1 g2 : Nat → Int) (al : Bool) (rm rt rs : Int) (w : World) (e : Ending) (w' : World) : Prop :=
  ∃ (da ea : Option Addr) (dc ec : Nat), e = .returned (.tuple #[.agg #[.int .i64 T, .int .i64 H, .slice da sn dc, .slice ea hn ec], .agg #[.bool al, .int .i64 rm, .int .i64 rt, .int .i64 rs]]) ∧ SumsAt w' da sn f ∧ HitsAt w' ea hn g1 g2 ∧ Below w.heap.size w w'
theorem HitsAt.congr {w : World} {A : Option Addr} {len : Nat} {f g f' g' : Nat → Int} (h : HitsAt w A len f g) (e : ∀ i, i < len → f i = f' i ∧ g i = g' i) : HitsAt w A len f' g' := by
  intro h0
  obtain ⟨b, off, ea, hl, hc⟩ := h h0
  exact ⟨b, off, ea, hl, fun i hi => by rw [← (e i hi).1, ← (e i hi).2]; exact hc i hi⟩
theorem Tells.congr {T H : Int} {sn hn : Nat} {f f' g1 g2 g1' g2' : Nat → Int} {al : Bool} {rm rt rs : Int} {w w' : World} {e : Ending} (h : Tells T H sn f hn g1 g2 al rm rt rs w e w') (e1 : ∀ i, i < sn → f i = f' i) (e2 : ∀ i, i < hn → g1 i = g1' i ∧ g2 i = g2' i) : Tells T H sn f' hn g1' g2' al rm rt rs w e w' := by
  obtain ⟨da, ea, dc, ec, h1, h2, h3, h4⟩ := h
  exact ⟨da, ea, dc, ec, h1, h2.congr e1, h3.congr e2, h4⟩
theorem Few_yes (a n : Int) (sa ha : Option Addr) (sn sc hn hc : Nat) (w : World) (h1 : sn ≤ 40) (h2 : hn ≤ 40) : Calls Try.prog 8 #[.agg #[.int .i64 a, .int .i64 n, .slice sa sn sc, .slice ha hn hc]] w fun e w' => e = .returned (.bool true) ∧ Below w.heap.size w w' := by
  have d : decide ((hn : Int) ≤ 40) = true := by simp; omega
  go_enter Try.func8, Try.ntmps8
  go_wp2
  go_ret
  exact ⟨rfl, (Below.refl _ _).alloc (Nat.le_refl _) _⟩
theorem Few_no (a n : Int) (sa ha : Option Addr) (sn sc hn hc : Nat) (w : World) (h : ¬ (sn ≤ 40 ∧ hn ≤ 40)) (m1 : sn ≤ maxLen) (m2 : hn ≤ maxLen) : Calls Try.prog 8 #[.agg #[.int .i64 a, .int .i64 n, .slice sa sn sc, .slice ha hn hc]] w fun e w' => e = .returned (.bool false) ∧ Below w.heap.size w w' := by
  unfold maxLen at m1 m2
  by_cases h1 : sn ≤ 40
  · have d : decide ((hn : Int) ≤ 40) = false := by simp; omega
    clear h
    go_enter Try.func8, Try.ntmps8
    go_wp2
    go_ret
    exact ⟨rfl, (Below.refl _ _).alloc (Nat.le_refl _) _⟩
  · clear h
    go_enter Try.func8, Try.ntmps8
    go_wp2
    go_ret
    exact ⟨rfl, (Below.refl _ _).alloc (Nat.le_refl _) _⟩
end Go.Proofs.Ytgdcgilhaedbmaa
