/- The document's own Recent. -/
import Derived.Test.YtjkejlnelkckgaaRcOps
namespace Go.Proofs.Ytjkejlnelkckgaa
open Go.ChangeShapes Go.WideShapes Go.ChangeAt Go.RowKit
set_option linter.unusedVariables false

/-- 'append(s, x...)', s a row of one's own that may be empty: as a step of the walk. -/
theorem wpList_spreadN (u : World) (B g0 n0 c0 : Nat) (xs0 : List Nat) (hn0 : xs0.length = n0) {ops : Array Oper} {rest : List Oper} {o : Oper} {a : Act} {Q : Exit → Act → World → Prop} (hgd : o.guard = none) (s x : Operand)
    (ho : o.op = .call { callee := .builtin .append, args := #[s, x], argTypes := #[26, 26] }) (A : Option Addr) (m c : Nat) (l : List Nat) (hl : l.length = m)
    (hs : a.eval s = .slice (some ⟨g0, 0, none⟩) n0 c0) (hx : a.eval x = .slice A m c) (hO : u.ownsRow B 3 1 (.slice (some ⟨g0, 0, none⟩) n0 c0) n0 (idsV xs0)) (hI : NatsAt u A l) (hm : n0 + m ≤ 1000) (hB : B ≤ u.heap.size)
    (h : ∀ g cap w', w'.ownsRow B 3 1 (.slice (some ⟨g, 0, none⟩) (n0 + m) cap) (n0 + m) (idsV (xs0 ++ l)) → Kept (fun b => b = g0) u w' → (g = g0 ∨ u.heap.size ≤ g) → wpList Try.prog ops Q rest (a.put o.dst (.slice (some ⟨g, 0, none⟩) (n0 + m) cap)) w') :
    wpList Try.prog ops Q (o :: rest) a u := by
  refine wpList_plain hgd fun K hK => ?_
  have h1 := step_spreadN (ops := ops) (E := True) (K := K) (Q := Q) u B g0 n0 c0 xs0 hn0 hgd s x ho A m c l hl hs hx hO hI hm hB (fun g cap w' q1 q2 q3 => hK _ _ (h g cap w' q1 q2 q3))
  rw [if_pos (by simp [Region.wanted, hgd])] at h1
  exact h1
theorem own_g_lt {w : World} {B g n cap : Nat} {xs : List Value} (h : w.ownsRow B 3 1 (.slice (some ⟨g, 0, none⟩) n cap) n xs) : g < w.heap.size ∧ B ≤ g := by
  obtain ⟨rest, hh, _, _⟩ := has_of_owns h
  exact ⟨hh.lt, (own_ge h rfl).1⟩
/-- The document's Recent of these ids; they lie apart from N. -/
structure RK (w : World) (bR : Nat) (N : Nat → Prop) (l : List Nat) (A : Option Addr) (cap : Nat) : Prop where
  hd : Has w bR 28 [.slice A l.length cap]
  at_ : IntsAt w A cap (cI l)
  ap : ∀ a, A = some a → ¬ N a.block ∧ a.block ≠ bR ∧ a.block < w.heap.size
  nb : ¬ N bR
section
variable {w w' : World} {bR : Nat} {N : Nat → Prop} {l : List Nat} {A : Option Addr} {cap : Nat}
theorem RK.kept (h : RK w bR N l A cap) (hk : Kept N w w') : RK w' bR N l A cap :=
  ⟨h.hd.kept hk h.nb, h.at_.kept hk (fun a e => (h.ap a e).1), fun a e => ⟨(h.ap a e).1, (h.ap a e).2.1, Nat.lt_of_lt_of_le (h.ap a e).2.2 hk.size⟩, h.nb⟩
theorem RK.below (h : RK w bR N l A cap) (hb : Below w.heap.size w w') : RK w' bR N l A cap := h.kept (Kept.of_below hb)
theorem RK.cell (h : RK w bR N l A cap) : w.cell? ⟨bR, 0, none⟩ = some (.slice A l.length cap) := h.hd.cell 0
theorem RK.le (h : RK w bR N l A cap) : l.length ≤ cap := by have := h.at_.1; rwa [cI_len] at this
theorem RK.elt (h : RK w bR N l A cap) {i x : Nat} (hx : l[i]? = some x) : ∃ g, A = some ⟨g, 0, none⟩ ∧ w.cell? ⟨g, i, none⟩ = some (.int .i64 (x : Int)) := by
  have hi := (List.getElem?_eq_some_iff.1 hx).1
  obtain ⟨g, e, hc⟩ := h.at_.2 (by rw [cI_len]; omega)
  exact ⟨g, e, hc i x (by rw [cI_at, hx]; rfl)⟩
end
/-- Where an id stands. -/
def PlaceAt (l : List Nat) (k z : Int) : Prop := (∃ i x : Nat, l[i]? = some x ∧ (x : Int) = k ∧ z = (i : Int) ∧ ∀ j y : Nat, j < i → l[j]? = some y → (y : Int) ≠ k) ∨ ((∀ x : Nat, x ∈ l → (x : Int) ≠ k) ∧ z = -1)
section
variable (bR : Nat) (N : Nat → Prop) (l : List Nat) (A : Option Addr) (cap : Nat) (w : World) (h : RK w bR N l A cap)
include h
set_option maxRecDepth 100000 in
theorem place_any (k : Int) (hl : l.length ≤ 1000) : Calls Try.prog 23 #[.pointer (some ⟨bR, 0, none⟩), .int .i64 k] w fun e w' => ∃ z, e = .returned (.int .i64 z) ∧ w = w' ∧ PlaceAt l k z := by
  have H := Lib.hid h
  have c0 := h.cell
  have hb := h.hd.lt
  have hle := h.le
  clear h
  obtain ⟨n, hn⟩ : ∃ n, l.length = n := ⟨_, rfl⟩
  have HN := Lib.hid hn
  rw [hn] at c0 hle hl
  clear hn
  go_enter Try.func23, Try.ntmps23
  go_wp2
  go_loop [5] (fun i => ∃ t : Nat, t ≤ n ∧ i = .int .i64 (t : Int) ∧ ∀ j y : Nat, j < t → l[j]? = some y → (y : Int) ≠ k) (fun i => n - (intOf i).toNat)
  case atStart => exact ⟨0, by omega, rfl, fun i _ hi => absurd hi (by omega)⟩
  case round =>
    obtain ⟨t, ht, rfl, hno⟩ := hrel
    have HNO := Lib.hid hno
    clear hno
    by_cases hlt : t < n
    · obtain ⟨x, hx⟩ : ∃ x, l[t]? = some x := ⟨_, List.getElem?_eq_getElem (by rw [HN.out]; exact hlt)⟩
      obtain ⟨g, rfl, c1⟩ := H.out.elt hx
      have HX := Lib.hid hx
      clear hx
      by_cases e : (x : Int) = k
      · have R1 := Lib.hid (show PlaceAt l k (t : Int) from .inl ⟨t, x, HX.out, e, rfl, HNO.out⟩)
        rw [e] at c1
        clear e
        go_wp2
        go_ret
        exact ⟨_, rfl, rfl, R1.out⟩
      · have t1 : ((x : Int) == k) = false := by simp [e]
        have HE := Lib.hid e
        clear e
        go_wp2
        go_round
        case rel =>
          refine ⟨t + 1, by omega, by go_num, fun p y hp hy => ?_⟩
          by_cases e2 : p = t
          · subst e2
            rw [HX.out] at hy
            injection hy with hy
            subst hy
            exact HE.out
          · exact HNO.out p y (by omega) hy
        case measure => simp [intOf]; omega
    · have R1 := Lib.hid (show PlaceAt l k (-1) from .inr ⟨fun x hx => by
        obtain ⟨p, hp⟩ := List.getElem?_of_mem hx
        have := (List.getElem?_eq_some_iff.1 hp).1
        exact HNO.out p x (by rw [HN.out] at this; omega) hp, rfl⟩)
      go_wp2
      go_ret
      exact ⟨_, rfl, rfl, R1.out⟩
end
end Go.Proofs.Ytjkejlnelkckgaa
