/- Two Readers side by side. -/
import Derived.Test.YtgcdminjpdbchabFr9
namespace Go.Proofs.Ytgcdminjpdbchab
open Go.ChangeShapes Go.WideShapes Go.ChangeAt Go.RowKit
set_option linter.unusedVariables false

theorem parse_run (s : ByteArray) : (parseL s.data.toList).1 = (FrS.new.run s.data.toList).2 ∧ (parseL s.data.toList).2 = (FrS.new.run s.data.toList).1.k.length := by
  have := run_parse _ s.data.toList (Nat.le_refl _)
  exact ⟨this.1.symm, this.2.symm⟩
theorem Left_at (w : World) (r : Nat) (v : Value) (s : FrS) (z : Int) (h : Rd w r v s) (hz : (s.k.length : Int) = z) : Calls Try.prog 12 #[.pointer (some ⟨r, 0, none⟩)] w fun e w' => e = .returned (.int .i64 z) ∧ w = w' := by
  rw [← hz]; exact Left_any w r v s h
structure Two (W w : World) (r1 : Nat) (v1 : Value) (s1 : FrS) (r2 : Nat) (v2 : Value) (s2 : FrS) : Prop where
  m1 : Mn W w r1 v1 s1
  m2 : Mn W w r2 v2 s2
  ne : r1 ≠ r2
  ap : ∀ g, v1.ownBlock = some g → v2.ownBlock ≠ some g
theorem Two.swap {W w : World} {r1 r2 : Nat} {v1 v2 : Value} {s1 s2 : FrS} (h : Two W w r1 v1 s1 r2 v2 s2) : Two W w r2 v2 s2 r1 v1 s1 := ⟨h.m2, h.m1, h.ne.symm, fun g e1 e2 => h.ap g e2 e1⟩
theorem Two.fed {W w w' : World} {r1 r2 : Nat} {v1 v2 v' : Value} {s1 s2 s' : FrS} (h : Two W w r1 v1 s1 r2 v2 s2) (k : RdT w r1 v1 s' v' w') : Two W w' r1 v' s' r2 v2 s2 := by
  have m1 := h.m1.fed k
  have l1 := h.m1.t.lt
  have l2 := h.m2.t.lt
  refine ⟨m1, ⟨h.m2.t.kept k.kp (fun q => q.elim (fun q => h.ne q.symm) (fun q => owns_ne h.m1.t.o q h.m2.t.h (by decide) rfl)) (fun b hb q => q.elim (fun q => owns_ne h.m2.t.o hb h.m1.t.h (by decide) q.symm) (fun q => h.ap b q hb)), m1.b, h.m2.r0, h.m2.v0⟩, h.ne, fun g e1 e2 => ?_⟩
  rcases k.fr g e1 with q | q
  · exact h.ap g q e2
  · have := l2.2 g e2; omega
theorem Two.step {W w w' : World} {r1 r2 : Nat} {v1 v2 : Value} {s1 s2 : FrS} (h : Two W w r1 v1 s1 r2 v2 s2) (hb : Below w.heap.size w w') : Two W w' r1 v1 s1 r2 v2 s2 := ⟨h.m1.step hb, h.m2.step hb, h.ne, h.ap⟩
/-- Beside a row of pieces that grows. -/
theorem Two.kept {W w w' : World} {r1 r2 : Nat} {v1 v2 : Value} {s1 s2 : FrS} (h : Two W w r1 v1 s1 r2 v2 s2) {B : Nat} {T : TypeId} {pv : Value} {l : List (ByteArray × Int)} (hO : OwnPr B T w pv l) (hk : Kept (fun b => pv.ownBlock = some b) w w') (h1 : 47 ≠ T) (h2 : 5 ≠ T) (hB : W.heap.size ≤ B) : Two W w' r1 v1 s1 r2 v2 s2 := by
  have hb : Below W.heap.size W w' := h.m1.b.trans (hk.below h.m1.b.size (fun k hk e => by have := (owns_lt hO e).1; omega))
  exact ⟨⟨h.m1.t.kept hk (fun q => owns_ne hO q h.m1.t.h h1 rfl) (fun b hb q => owns_ne2 h.m1.t.o hO h2 hb q), hb, h.m1.r0, h.m1.v0⟩,
    ⟨h.m2.t.kept hk (fun q => owns_ne hO q h.m2.t.h h1 rfl) (fun b hb q => owns_ne2 h.m2.t.o hO h2 hb q), hb, h.m2.r0, h.m2.v0⟩, h.ne, h.ap⟩
theorem Two.two {W w1 w2 : World} {r1 r2 : Nat} {v1 v2 : Value} {s1 s2 : FrS} (h : Mn W w1 r1 v1 s1) (k : Rd w2 r2 v2 s2) (hr : r2 = w1.heap.size) (hv : v2 = .slice none 0 0) (hb : Below w1.heap.size w1 w2) : Two W w2 r1 v1 s1 r2 v2 s2 := by
  have m := h.step hb
  have l := h.t.lt
  subst hr; subst hv
  exact ⟨m, ⟨k, m.b, h.b.size, fun b hb => by simp [Value.ownBlock] at hb⟩, by omega, fun g e1 e2 => by simp [Value.ownBlock] at e2⟩
/-- Two rows of the same pieces, read. -/
structure Alike (w : World) (A B : Option Addr) (l : List (ByteArray × Int)) : Prop where
  a : PrAt w A l
  b : PrAt w B l
theorem Alike.drewN {w : World} {A B : Option Addr} {l : List (ByteArray × Int)} (h : Alike w A B l) (m : Nat) : Alike (w.drewN m) A B l := ⟨h.a, h.b⟩
theorem Alike.four {w : World} {A B : Option Addr} {l : List (ByteArray × Int)} (h : Alike w A B l) {j : Nat} (hj : j < l.length) : ∃ b1 o1 b2 o2 s z, A = some ⟨b1, o1, none⟩ ∧ B = some ⟨b2, o2, none⟩ ∧ w.cell? ⟨b1, o1 + j * 2, none⟩ = some (.string s) ∧ w.cell? ⟨b1, o1 + j * 2 + 1, none⟩ = some (.int .i64 z) ∧ w.cell? ⟨b2, o2 + j * 2, none⟩ = some (.string s) ∧ w.cell? ⟨b2, o2 + j * 2 + 1, none⟩ = some (.int .i64 z) := by
  obtain ⟨b1, o1, rfl, _, q1⟩ := h.a (by omega)
  obtain ⟨b2, o2, rfl, _, q2⟩ := h.b (by omega)
  have q1 := q1 j _ (List.getElem?_eq_getElem hj)
  have q2 := q2 j _ (List.getElem?_eq_getElem hj)
  exact ⟨b1, o1, b2, o2, _, _, rfl, rfl, q1.1, q1.2, q2.1, q2.2⟩
end Go.Proofs.Ytgcdminjpdbchab
