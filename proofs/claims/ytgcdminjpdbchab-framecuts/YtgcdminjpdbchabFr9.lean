/- The rest of a row of pieces. -/
import Derived.Test.YtgcdminjpdbchabFr8
namespace Go.Proofs.Ytgcdminjpdbchab
open Go.ChangeShapes Go.WideShapes Go.ChangeAt Go.RowKit
set_option linter.unusedVariables false
theorem sl1 (b cap q n : Nat) (h : q + n ≤ cap) (hm : cap ≤ maxLen) (hne : ¬ cap = q) (u : World) : (Instr.slice 27 (.slice (some ⟨b, 0, none⟩) (q + n) cap) (some (.int .i64 (q : Int))) none none).run Try.prog u = .ok (.slice (some ⟨b, q * 2, none⟩) n (cap - q)) u := by
  unfold maxLen at hm
  go_simp
  intro h; omega
theorem sl2 (b q : Nat) (hm : q ≤ maxLen) (u : World) : (Instr.slice 27 (.slice (some ⟨b, 0, none⟩) q q) (some (.int .i64 (q : Int))) none none).run Try.prog u = .ok (.slice (some ⟨b, 0, none⟩) 0 0) u := by
  unfold maxLen at hm
  go_simp
theorem sl3 (u : World) : (Instr.slice 27 (.slice none 0 0) (some (.int .i64 0)) none none).run Try.prog u = .ok (.slice none 0 0) u := by
  go_simp
/-- The rest of a row. -/
theorem PrAt.rest {w : World} {b off k : Nat} {l m : List (ByteArray × Int)} (h : PrAt w (some ⟨b, off, none⟩) (l ++ m)) (hk : l.length = k) : PrAt w (some ⟨b, off + k * 2, none⟩) m := fun h0 => by
  obtain ⟨b', off', e, hb, hc⟩ := h (by rw [List.length_append]; omega)
  cases e
  refine ⟨b, off + k * 2, rfl, hb, fun i p hp => ?_⟩
  have := hc (k + i) p (by rw [List.getElem?_append_right (by omega), hk, Nat.add_sub_cancel_left]; exact hp)
  rw [show off + k * 2 + i * 2 = off + (k + i) * 2 by rw [Nat.add_mul]; omega]
  exact this
theorem own_form {w : World} {B : Nat} {T : TypeId} {v : Value} {l : List (ByteArray × Int)} (h : OwnPr B T w v l) : (v = .slice none 0 0 ∧ l = []) ∨ ∃ b cap, v = .slice (some ⟨b, 0, none⟩) l.length cap ∧ l.length ≤ cap ∧ cap ≤ maxLen := by
  rcases h.2 with ⟨h1, h2⟩ | ⟨g, cap, cur, rfl, _, _, h5, h6, _⟩
  · exact .inl ⟨h1, List.length_eq_zero_iff.1 h2⟩
  · exact .inr ⟨g, cap, rfl, h5, h6⟩
/-- What is sliced off a row at a place. -/
structure Rest (B0 : Nat) (pv : Value) (l m : List (ByteArray × Int)) (q n : Nat) (B : Option Addr) (d : Nat) : Prop where
  run : ∀ u : World, (Instr.slice 27 pv (some (.int .i64 (q : Int))) none none).run Try.prog u = .ok (.slice B n d) u
  at_ : ∀ w', OwnPr B0 39 w' pv (l ++ m) → PrAt w' B m
theorem rest_of {w : World} {B0 : Nat} {pv : Value} {l m : List (ByteArray × Int)} {q n : Nat} (h : OwnPr B0 39 w pv (l ++ m)) (hq : l.length = q) (hn : m.length = n) : ∃ B d, Rest B0 pv l m q n B d := by
  have hl : (l ++ m).length = q + n := by rw [List.length_append, hq, hn]
  rcases own_form h with ⟨rfl, e⟩ | ⟨b, cap, rfl, h1, h2⟩
  · have e1 : l = [] := (List.append_eq_nil_iff.1 e).1
    have e2 : m = [] := (List.append_eq_nil_iff.1 e).2
    subst e1; subst e2; subst hq; subst hn
    exact ⟨none, 0, fun u => sl3 u, fun w' _ => PrAt.nil _ _⟩
  · rw [hl] at h1
    by_cases e : cap = q
    · subst e
      obtain rfl : n = 0 := by omega
      have e2 : m = [] := List.length_eq_zero_iff.1 hn
      subst e2
      rw [hl]
      exact ⟨some ⟨b, 0, none⟩, 0, fun u => sl2 b _ h2 u, fun w' _ => PrAt.nil _ _⟩
    · rw [hl]
      refine ⟨some ⟨b, q * 2, none⟩, cap - q, fun u => sl1 b cap q n h1 h2 e u, fun w' hw => ?_⟩
      obtain ⟨A, c, e1, _, _, h3⟩ := hw.at_
      obtain rfl : some ⟨b, 0, none⟩ = A := by injection e1
      have := h3.rest hq
      rw [Nat.zero_add] at this
      exact this
end Go.Proofs.Ytgcdminjpdbchab
