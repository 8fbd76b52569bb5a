/- The document's map: rows of pairs cut at a place; Put. -/
import Derived.Test.YtgcdminjpdbchaaDoorRbM2
import Derived.Test.YtgcdminjpdbchaaDoorRb9
namespace Go.Proofs.YtgcdminjpdbchaaDoor
open Go.ChangeShapes Go.WideShapes Go.ChangeAt Go.RowKit
set_option linter.unusedVariables false

theorem own_form {w : World} {B : Nat} {T : TypeId} {v : Value} {l : List (ByteArray × Int)} (h : OwnPr B T w v l) : (v = .slice none 0 0 ∧ l = []) ∨ ∃ b cap, v = .slice (some ⟨b, 0, none⟩) l.length cap ∧ l.length ≤ cap ∧ cap ≤ maxLen := by
  rcases h.2 with ⟨h1, h2⟩ | ⟨g, cap, cur, rfl, _, _, h5, h6, _⟩
  · exact .inl ⟨h1, List.length_eq_zero_iff.1 h2⟩
  · exact .inr ⟨g, cap, rfl, h5, h6⟩
theorem OwnPr.base {B B2 : Nat} {T : TypeId} {w : World} {v : Value} {l : List (ByteArray × Int)} (h : OwnPr B2 T w v l) (hb : B ≤ B2) : OwnPr B T w v l := by
  obtain ⟨h1, h2 | ⟨g, cap, cur, h2, h3, h4⟩⟩ := h
  · exact ⟨h1, .inl h2⟩
  · exact ⟨h1, .inr ⟨g, cap, cur, h2, Nat.le_trans hb h3, h4⟩⟩
theorem OwnPr.store {B : Nat} {T : TypeId} {w : World} {g n cap : Nat} {l : List (ByteArray × Int)} (h : OwnPr B T w (.slice (some ⟨g, 0, none⟩) n cap) l) {i : Nat} {p : ByteArray × Int} (hp : l[i]? = some p) (y : Int) : OwnPr B T (w.setCell ⟨g, i * 2 + 1, none⟩ (.int .i64 y)) (.slice (some ⟨g, 0, none⟩) n cap) (l.set i (p.1, y)) := by
  obtain ⟨h1, ⟨h2, _⟩ | ⟨c, cp, cur, h2, hb, hh, h5, h6, h7, h8⟩⟩ := h
  · cases h2
  injection h2 with ha hn hcp
  injection ha with ha
  injection ha with ha
  subst ha hcp
  refine ⟨by rw [prV_len], .inr ⟨g, cap, cur.setIfInBounds (i * 2 + 1) (.int .i64 y), by rw [List.length_set, hn], hb, ?_, by rw [List.length_set]; exact h5, h6, by simpa using h7, ?_⟩⟩
  · simp [World.setCell, Array.getElem?_modify, hh]
  · rw [Array.toList_setIfInBounds, List.take_set, List.length_set, h8, prV_set l i p y hp]
theorem OwnPr.loose {B : Nat} {T : TypeId} {w : World} {g n cap : Nat} {l : List (ByteArray × Int)} (h : OwnPr B T w (.slice (some ⟨g, 0, none⟩) n cap) l) (i : Nat) : w.frozen? ⟨g, i, none⟩ = false := by
  obtain ⟨h1, ⟨h2, _⟩ | ⟨c, cp, cur, h2, hb, hh, h5, h6, h7, h8⟩⟩ := h
  · cases h2
  injection h2 with ha hn hcp
  injection ha with ha
  injection ha with ha
  subst ha
  simp [World.frozen?, hh]
/-- What is cut off a row at a place, ahead of it and from it on. -/
structure CutP (B0 : Nat) (pv : Value) (l : List Pr) (i : Nat) (B1 : Option Addr) (d1 : Nat) (B2 : Option Addr) (d2 : Nat) : Prop where
  pre : ∀ u : World, (Instr.slice 37 pv none (some (.int .i64 (i : Int))) none).run Tryd.prog u = .ok (.slice B1 i d1) u
  rest : ∀ u : World, (Instr.slice 37 pv (some (.int .i64 (i : Int))) none none).run Tryd.prog u = .ok (.slice B2 (l.length - i) d2) u
  at1 : ∀ w', OwnPr B0 70 w' pv l → PrAt w' B1 (l.take i)
  at2 : ∀ w', OwnPr B0 70 w' pv l → PrAt w' B2 (l.drop i)
theorem sp1 (b cap n i : Nat) (h : i ≤ n) (hn : n ≤ cap) (hm : cap ≤ maxLen) (u : World) : (Instr.slice 37 (.slice (some ⟨b, 0, none⟩) n cap) none (some (.int .i64 (i : Int))) none).run Tryd.prog u = .ok (.slice (some ⟨b, 0, none⟩) i cap) u := by
  unfold maxLen at hm
  have h1 : i ≤ cap := by omega
  go_simp
theorem sp2 (b cap n i : Nat) (h : i ≤ n) (hn : n ≤ cap) (hm : cap ≤ maxLen) (hne : ¬ cap = i) (u : World) : (Instr.slice 37 (.slice (some ⟨b, 0, none⟩) n cap) (some (.int .i64 (i : Int))) none none).run Tryd.prog u = .ok (.slice (some ⟨b, i * 2, none⟩) (n - i) (cap - i)) u := by
  unfold maxLen at hm
  go_simp
theorem sp3 (b i : Nat) (hm : i ≤ maxLen) (u : World) : (Instr.slice 37 (.slice (some ⟨b, 0, none⟩) i i) (some (.int .i64 (i : Int))) none none).run Tryd.prog u = .ok (.slice (some ⟨b, 0, none⟩) 0 0) u := by
  unfold maxLen at hm
  go_simp
theorem sp4 (u : World) : (Instr.slice 37 (.slice none 0 0) (some (.int .i64 0)) none none).run Tryd.prog u = .ok (.slice none 0 0) u := by
  go_simp
theorem sp5 (u : World) : (Instr.slice 37 (.slice none 0 0) none (some (.int .i64 0)) none).run Tryd.prog u = .ok (.slice none 0 0) u := by
  go_simp
theorem len_own {B : Nat} {T : TypeId} {w : World} {v : Value} {l : List Pr} (h : OwnPr B T w v l) (ty : TypeId) (u : World) : (Builtin.len_ #[37] ty #[v]).run Tryd.prog u = .ok (.int .i64 (l.length : Int)) u := by
  obtain ⟨A, cap, rfl, _⟩ := h.at_
  go_simp
theorem cut_of {w : World} {B0 : Nat} {pv : Value} {l : List Pr} {i : Nat} (h : OwnPr B0 70 w pv l) (hi : i ≤ l.length) : ∃ B1 d1 B2 d2, CutP B0 pv l i B1 d1 B2 d2 := by
  rcases own_form h with ⟨rfl, rfl⟩ | ⟨b, cap, rfl, h1, h2⟩
  · obtain rfl : i = 0 := by simpa using hi
    exact ⟨none, 0, none, 0, fun u => sp5 u, fun u => sp4 u, fun w' _ => PrAt.nil _ _, fun w' _ => PrAt.nil _ _⟩
  · have a1 : ∀ w', OwnPr B0 70 w' (.slice (some ⟨b, 0, none⟩) l.length cap) l → PrAt w' (some ⟨b, 0, none⟩) l := fun w' hw => by
      obtain ⟨A, c, e1, _, _, h3⟩ := hw.at_
      obtain rfl : some ⟨b, 0, none⟩ = A := by injection e1
      exact h3
    have a2 : ∀ w', OwnPr B0 70 w' (.slice (some ⟨b, 0, none⟩) l.length cap) l → PrAt w' (some ⟨b, 0, none⟩) (l.take i) := fun w' hw h0 => by
      obtain ⟨b', off', e, hb, hc⟩ := a1 w' hw (by rw [List.length_take] at h0; omega)
      exact ⟨b', off', e, hb, fun j p hp => hc j p (by rw [List.getElem?_take] at hp; split at hp <;> first | exact hp | cases hp)⟩
    by_cases e : cap = i
    · have el : l.length = i := by omega
      refine ⟨some ⟨b, 0, none⟩, cap, some ⟨b, 0, none⟩, 0, fun u => sp1 b cap l.length i hi h1 h2 u, fun u => ?_, a2, fun w' _ => ?_⟩
      · subst e
        rw [el, Nat.sub_self]
        exact sp3 b _ h2 u
      · rw [List.drop_eq_nil_of_le (by omega)]
        exact PrAt.nil _ _
    · refine ⟨some ⟨b, 0, none⟩, cap, some ⟨b, i * 2, none⟩, cap - i, fun u => sp1 b cap l.length i hi h1 h2 u, fun u => sp2 b cap l.length i hi h1 h2 e u, a2, fun w' hw h0 => ?_⟩
      obtain ⟨b', off', e', hb, hc⟩ := a1 w' hw (by rw [List.length_drop] at h0; omega)
      cases e'
      refine ⟨b, i * 2, rfl, hb, fun j p hp => ?_⟩
      rw [List.getElem?_drop] at hp
      have := hc (i + j) p hp
      rw [Nat.zero_add] at this
      rw [show i * 2 + j * 2 = (i + j) * 2 by rw [Nat.add_mul]]
      exact this
end Go.Proofs.YtgcdminjpdbchaaDoor
