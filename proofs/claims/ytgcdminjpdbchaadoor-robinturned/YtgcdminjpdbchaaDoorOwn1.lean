/- A list of a call's own that grows by one; blocks that are all unlike. -/
import Derived.Test.YtgcdminjpdbchaaDoorMem2
import Derived.Deep.AppendLies
import Derived.Maps.AppendAt
namespace Go.Proofs.YtgcdminjpdbchaaDoor
open Go.ChangeShapes Go.WideShapes Go.ChangeAt Go.RowKit
set_option linter.unusedVariables false

theorem ownsRow_kept {F : Nat → Prop} {w w' : World} {base : Nat} {e : TypeId} {size : Nat} {v : Value} {n : Nat} {xs : List Value} (h : w.ownsRow base e size v n xs) (hk : Kept F w w') (hF : ∀ b, v.ownBlock = some b → ¬ F b) : w'.ownsRow base e size v n xs := by
  obtain ⟨h1, h2 | ⟨g, cap, cur, rfl, hb, hh, h3⟩⟩ := h
  · exact ⟨h1, .inl h2⟩
  · have hlt : g < w.heap.size := by
      rcases Nat.lt_or_ge g w.heap.size with hlt | hge
      · exact hlt
      · rw [Array.getElem?_eq_none hge] at hh; cases hh
    exact ⟨h1, .inr ⟨g, cap, cur, rfl, hb, (hk.block g hlt (hF g rfl)).trans hh, h3⟩⟩
theorem own_lt {w : World} {B : Nat} {e : TypeId} {n : Nat} {v : Value} {xs : List Value} (h : w.ownsRow B e 1 v n xs) {b : Nat} (hb : v.ownBlock = some b) : b < w.heap.size := by
  rcases h.2 with ⟨rfl, _⟩ | ⟨g, cap, cur, rfl, _, hh, _⟩
  · simp [Value.ownBlock] at hb
  · have : b = g := by simpa [Value.ownBlock] using hb.symm
    subst this
    rcases Nat.lt_or_ge b w.heap.size with hlt | hge
    · exact hlt
    · rw [Array.getElem?_eq_none hge] at hh; cases hh
theorem own_ge {w : World} {B n : Nat} {e : TypeId} {v : Value} {xs : List Value} (h : w.ownsRow B e 1 v n xs) {b : Nat} (hb : v.ownBlock = some b) : B ≤ b ∧ ∃ cs, w.heap[b]? = some (.cells cs e (0, 0)) := by
  rcases h.2 with ⟨rfl, _⟩ | ⟨g, cap, cur, rfl, hg, hh, _⟩
  · simp [Value.ownBlock] at hb
  · have : b = g := by simpa [Value.ownBlock] using hb.symm
    subst this
    exact ⟨hg, cur, hh⟩
/-- A list of a call's own. -/
def Own1 (B : Nat) (e : TypeId) (w : World) (v : Value) (xs : List Value) : Prop := w.ownsRow B e 1 v xs.length xs ∧ (v = .slice none 0 0 ↔ xs = [])
theorem Own1.nil (B : Nat) (e : TypeId) (w : World) : Own1 B e w (.slice none 0 0) [] := ⟨World.ownsRow_nil _ _ _ _, by simp⟩
theorem Own1.kept {F : Nat → Prop} {B : Nat} {e : TypeId} {w w' : World} {v : Value} {xs : List Value} (h : Own1 B e w v xs) (hk : Kept F w w') (hF : ∀ b, v.ownBlock = some b → ¬ F b) : Own1 B e w' v xs := ⟨ownsRow_kept h.1 hk hF, h.2⟩
theorem Own1.lt {B : Nat} {e : TypeId} {w : World} {v : Value} {xs : List Value} (h : Own1 B e w v xs) {b : Nat} (hb : v.ownBlock = some b) : b < w.heap.size := own_lt h.1 hb
theorem Own1.ge {B : Nat} {e : TypeId} {w : World} {v : Value} {xs : List Value} (h : Own1 B e w v xs) {b : Nat} (hb : v.ownBlock = some b) : B ≤ b := (own_ge h.1 hb).1
theorem Own1.has {B : Nat} {e : TypeId} {w : World} {v : Value} {xs : List Value} (h : Own1 B e w v xs) (h0 : xs ≠ []) : ∃ g cap rest, v = .slice (some ⟨g, 0, none⟩) xs.length cap ∧ B ≤ g ∧ cap ≤ maxLen ∧ Has w g e (xs ++ rest) ∧ xs.length + rest.length = cap := by
  obtain ⟨h1, h2⟩ := h
  rcases h1.2 with ⟨e1, _⟩ | ⟨g, cap, cur, rfl, hb, hh, hn, hm, hz, ht⟩
  · exact absurd (h2.1 e1) h0
  · obtain ⟨rest, q1, q2, q3⟩ := has_of_owns h1
    exact ⟨g, cap, rest, rfl, hb, hm, q1, q3⟩
theorem Own1.sl {B : Nat} {e : TypeId} {w : World} {v : Value} {xs : List Value} (h : Own1 B e w v xs) : ∃ A cap, v = .slice A xs.length cap := by
  rcases h.1.2 with ⟨h1, h2⟩ | ⟨g, cap, cur, h1, _⟩
  · exact ⟨none, 0, by rw [h1, h2]⟩
  · exact ⟨_, _, h1⟩
/-- 'append(l, x)': as a step of the walk. -/
theorem wpList_append_own1 {B : Nat} (w : World) (H : Nat) (hH : w.heap.size = H) {ops : Array Oper} {rest : List Oper} {o : Oper} {a : Act} {Q : Exit → Act → World → Prop} (hgd : o.guard = none) (s x : Operand) (t : TypeId)
    (ho : o.op = .call { callee := .builtin .append, args := #[s, x], argTypes := #[t, t] }) (e : TypeId) (z : Value) (bytes : Nat) (ht : Tryd.prog.underlying t = some (.slice e)) (hinfo : (Tryd.prog.info? e).map (fun i => (i.zero, i.size, i.bytes)) = some (some z, 1, bytes)) (hzs : z.cells.size = 1) (hbb : bytes ≤ 100)
    (v u : Value) (xs : List Value) (n : Nat) (hn : xs.length = n) (hu : u.oneCell' = true) (hs : a.eval s = v) (hx : a.eval x = .slice (some ⟨H, 0, none⟩) 1 1) (hO : Own1 B e w v xs) (hB : B ≤ H) (hlen : n ≤ 1000)
    (h : ∀ g cap w', Own1 B e w' (.slice (some ⟨g, 0, none⟩) (n + 1) cap) (xs ++ [u]) → Kept (fun b => v.ownBlock = some b) w w' → (v.ownBlock = some g ∨ H ≤ g) → g < w'.heap.size → wpList Tryd.prog ops Q rest (a.put o.dst (.slice (some ⟨g, 0, none⟩) (n + 1) cap)) w') :
    wpList Tryd.prog ops Q (o :: rest) a (w.alloc (.cells #[u] e)) := by
  subst hn
  subst hH
  obtain ⟨i0, hi, hz0, hz1, hz2⟩ := info_parts hinfo
  refine wpList_append_lies _ hgd s x t ho B e i0 z 1 bytes ht hi hz0 hz1 hz2 hzs (by decide) v xs.length xs hs (hO.1.alloc _) ⟨w.heap.size, 0, none⟩ 1 1 [u] hx rfl (cell_one_new _ _ _) (by intro u' hu'; rw [List.mem_singleton.1 hu']; exact hu) (by decide) (by unfold maxLen; omega) (by have : (xs.length + 1) * bytes ≤ 1001 * 100 := Nat.mul_le_mul (by omega) hbb; omega) (by simp; omega) (w.heap.size + 1) (by simp) ?_
  intro g cap w' hown hgrow hat hlt
  refine h g cap w' ⟨by simpa using hown, by simp⟩ ?_ (hat.imp id (fun e => by omega)) hlt
  exact ((Kept.refl (fun b => v.ownBlock = some b) w).alloc (.cells #[u] e)).grown hgrow (fun g hg => .inl hg)

/-- The same at a step of a region that draws. -/
theorem step_append_own1 {B : Nat} (w : World) (H : Nat) (hH : w.heap.size = H) {ops : Array Oper} {o : Oper} {a : Act} {K : Act → World → Prop} {Q : Exit → Act → World → Prop} {E : Prop} (hgd : o.guard = none) (s x : Operand) (t : TypeId)
    (ho : o.op = .call { callee := .builtin .append, args := #[s, x], argTypes := #[t, t] }) (e : TypeId) (z : Value) (bytes : Nat) (ht : Tryd.prog.underlying t = some (.slice e)) (hinfo : (Tryd.prog.info? e).map (fun i => (i.zero, i.size, i.bytes)) = some (some z, 1, bytes)) (hzs : z.cells.size = 1) (hbb : bytes ≤ 100)
    (v u : Value) (xs : List Value) (n : Nat) (hn : xs.length = n) (hu : u.oneCell' = true) (hs : a.eval s = v) (hx : a.eval x = .slice (some ⟨H, 0, none⟩) 1 1) (hO : Own1 B e w v xs) (hB : B ≤ H) (hlen : n ≤ 1000)
    (h : ∀ g cap w', Own1 B e w' (.slice (some ⟨g, 0, none⟩) (n + 1) cap) (xs ++ [u]) → Kept (fun b => v.ownBlock = some b) w w' → (v.ownBlock = some g ∨ H ≤ g) → g < w'.heap.size → K (a.put o.dst (.slice (some ⟨g, 0, none⟩) (n + 1) cap)) w') :
    if Region.wanted o (yielded ops a.tmps) = true then Oper.wp Tryd.prog o a (w.alloc (.cells #[u] e)) K Q else E := by
  subst hn
  subst hH
  obtain ⟨i0, hi, hz0, hz1, hz2⟩ := info_parts hinfo
  refine step_append_lies _ hgd s x t ho B e i0 z 1 bytes ht hi hz0 hz1 hz2 hzs (by decide) v xs.length xs hs (hO.1.alloc _) ⟨w.heap.size, 0, none⟩ 1 1 [u] hx rfl (cell_one_new _ _ _) (by intro u' hu'; rw [List.mem_singleton.1 hu']; exact hu) (by decide) (by unfold maxLen; omega) (by have : (xs.length + 1) * bytes ≤ 1001 * 100 := Nat.mul_le_mul (by omega) hbb; omega) (by simp; omega) (w.heap.size + 1) (by simp) ?_
  intro g cap w' hown hgrow hat hlt
  refine h g cap w' ⟨by simpa using hown, by simp⟩ ?_ (hat.imp id (fun e => by omega)) hlt
  exact ((Kept.refl (fun b => v.ownBlock = some b) w).alloc (.cells #[u] e)).grown hgrow (fun g hg => .inl hg)

/-- Blocks by labels, all unlike. -/
def Inj (f : Nat → Option Nat) : Prop := ∀ a b x, f a = some x → f b = some x → a = b
theorem Inj.set {f f' : Nat → Option Nat} (h : Inj f) (a H : Nat) (hs : ∀ b, b ≠ a → f' b = f b) (hlt : ∀ b y, f b = some y → y < H) (ha : ∀ x, f' a = some x → f a = some x ∨ H ≤ x) : Inj f' := by
  intro b c x hb hc
  by_cases e1 : b = a
  · by_cases e2 : c = a
    · rw [e1, e2]
    · subst e1
      rw [hs c e2] at hc
      rcases ha x hb with h1 | h1
      · exact h b c x h1 hc
      · have := hlt c x hc; omega
  · rw [hs b e1] at hb
    by_cases e2 : c = a
    · subst e2
      rcases ha x hc with h1 | h1
      · exact h b c x hb h1
      · have := hlt b x hb; omega
    · rw [hs c e2] at hc
      exact h b c x hb hc
end Go.Proofs.YtgcdminjpdbchaaDoor
