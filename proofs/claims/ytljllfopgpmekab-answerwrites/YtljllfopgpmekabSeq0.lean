/- Rows of structs of any shape: lists that came in, a call's own, one thing more. -/
import Derived.Test.YtljllfopgpmekabMem2
import Derived.Test.YtljllfopgpmekabFlat
import Derived.Deep.AppendLies
import Derived.Deep.Upon
import Derived.Deep.Slices
import Derived.Deep.Fields
import Derived.ChangeSame
import Derived.Maps.AppendAt
namespace Go.Proofs.Ytljllfopgpmekab
open Go.ChangeShapes Go.WideShapes Go.ChangeAt Go.RowKit
set_option linter.unusedVariables false

/-- A slice reads so: the cells of its i-th thing. -/
def SeqAt {α : Type} (C : α → List Value) (m : Nat) (w : World) (A : Option Addr) (l : List α) : Prop :=
  0 < l.length → ∃ b off, A = some ⟨b, off, none⟩ ∧ b < w.heap.size ∧ ∀ i x, l[i]? = some x → ∀ j u, (C x)[j]? = some u → w.cell? ⟨b, off + i * m + j, none⟩ = some u
section
variable {α : Type} {C : α → List Value} {m : Nat} {w w' : World} {A : Option Addr} {l : List α}
theorem SeqAt.nil : SeqAt C m w A [] := fun h => absurd h (Nat.lt_irrefl 0)
theorem SeqAt.below (h : SeqAt C m w A l) (hb : Below w.heap.size w w') : SeqAt C m w' A l := fun h0 => by
  obtain ⟨b, off, rfl, h1, h2⟩ := h h0
  exact ⟨b, off, rfl, Nat.lt_of_lt_of_le h1 hb.size, fun i x hx j u hu => by rw [hb.cell (p := ⟨b, off + i * m + j, none⟩) h1]; exact h2 i x hx j u hu⟩
theorem SeqAt.kept {F : Nat → Prop} (h : SeqAt C m w A l) (hk : Kept F w w') (hF : ∀ b off, A = some ⟨b, off, none⟩ → ¬ F b) : SeqAt C m w' A l := fun h0 => by
  obtain ⟨b, off, rfl, h1, h2⟩ := h h0
  refine ⟨b, off, rfl, Nat.lt_of_lt_of_le h1 hk.size, fun i x hx j u hu => ?_⟩
  rw [← h2 i x hx j u hu]
  unfold World.cell?
  rw [hk.block b h1 (hF b off rfl)]
theorem SeqAt.take (h : SeqAt C m w A l) (k : Nat) : SeqAt C m w A (l.take k) := fun h0 => by
  obtain ⟨b, off, rfl, h1, h2⟩ := h (by simp at h0; omega)
  exact ⟨b, off, rfl, h1, fun i x hx => h2 i x (by
    rw [List.getElem?_take] at hx
    split at hx
    · exact hx
    · cases hx)⟩
/-- Its i-th thing, cell by cell. -/
theorem SeqAt.get (h : SeqAt C m w A l) {i : Nat} (hi : i < l.length) : ∃ b off, A = some ⟨b, off, none⟩ ∧ b < w.heap.size ∧ ∀ j u, (C l[i])[j]? = some u → w.cell? ⟨b, off + i * m + j, none⟩ = some u := by
  obtain ⟨b, off, e, h1, h2⟩ := h (by omega)
  exact ⟨b, off, e, h1, h2 i _ (List.getElem?_eq_getElem hi)⟩
end
/-- A row of a call's own. -/
def OwnSeq {α : Type} (C : α → List Value) (m : Nat) (B : Nat) (T : TypeId) (w : World) (v : Value) (l : List α) : Prop := w.ownsRow B T m v l.length (l.flatMap C)
section
variable {α : Type} {C : α → List Value} {m : Nat}
theorem seq_any (hC : ∀ x, (C x).length = m) (hm : 0 < m) (l : List α) (j : Nat) (u : Value) (h : (l.flatMap C)[j]? = some u) : ∃ i x k, l[i]? = some x ∧ j = i * m + k ∧ k < m ∧ (C x)[k]? = some u := by
  have hj : j < l.length * m := by have := (List.getElem?_eq_some_iff.1 h).1; rw [flatMap_len C m hC] at this; exact this
  have hi : j / m < l.length := Nat.div_lt_of_lt_mul (by rw [Nat.mul_comm]; exact hj)
  have hk : j % m < m := Nat.mod_lt _ hm
  have e : j = j / m * m + j % m := by rw [Nat.mul_comm]; exact (Nat.div_add_mod j m).symm
  refine ⟨j / m, l[j / m], j % m, List.getElem?_eq_getElem hi, e, hk, ?_⟩
  have := flatMap_get C m hC l (j / m) (j % m) hk
  rw [← e, h, List.getElem?_eq_getElem hi] at this
  exact this.symm
theorem OwnSeq.nil (B : Nat) (T : TypeId) (w : World) : OwnSeq C m B T w (.slice none 0 0) [] := ⟨by simp, .inl ⟨rfl, rfl⟩⟩
theorem OwnSeq.at_ (hC : ∀ x, (C x).length = m) {B : Nat} {T : TypeId} {w : World} {v : Value} {l : List α} (h : OwnSeq C m B T w v l) : ∃ A cap, v = .slice A l.length cap ∧ l.length ≤ cap ∧ cap ≤ maxLen ∧ SeqAt C m w A l := by
  obtain ⟨h1, ⟨h2, h3⟩ | ⟨gb, cap, cur, h2, h3, h4, h5, h6, h7, h8⟩⟩ := h
  · exact ⟨none, 0, by rw [h2, h3], by omega, Nat.zero_le _, fun h => absurd h (by omega)⟩
  · refine ⟨_, cap, h2, h5, h6, fun h0 => ⟨gb, 0, rfl, ?_, fun i x hx j u hu => ?_⟩⟩
    · rcases Nat.lt_or_ge gb w.heap.size with q | q
      · exact q
      · rw [Array.getElem?_eq_none q] at h4; cases h4
    · have hj : j < m := by have := (List.getElem?_eq_some_iff.1 hu).1; rw [hC] at this; exact this
      have hi := (List.getElem?_eq_some_iff.1 hx).1
      have hlt : i * m + j < l.length * m := by
        have : (i + 1) * m ≤ l.length * m := Nat.mul_le_mul_right _ hi
        rw [Nat.add_mul] at this
        omega
      have g := flatMap_get C m hC l i j hj
      rw [hx] at g
      rw [Nat.zero_add, cell_of_row w gb _ cur T (0, 0) h4, ← Array.getElem?_toList]
      have t : (cur.toList.take (l.length * m))[i * m + j]? = cur.toList[i * m + j]? := by rw [List.getElem?_take, if_pos hlt]
      rw [← t, h8, g]
      exact hu
theorem ownsRow_keptS {F : Nat → Prop} {w w' : World} {base : Nat} {e : TypeId} {size : Nat} {v : Value} {n : Nat} {xs : List Value} (h : w.ownsRow base e size v n xs) (hk : Kept F w w') (hF : ∀ b, v.ownBlock = some b → ¬ F b) : w'.ownsRow base e size v n xs := by
  obtain ⟨h1, h2 | ⟨g, cap, cur, rfl, hb, hh, h3⟩⟩ := h
  · exact ⟨h1, .inl h2⟩
  · have hlt : g < w.heap.size := by
      rcases Nat.lt_or_ge g w.heap.size with hlt | hge
      · exact hlt
      · rw [Array.getElem?_eq_none hge] at hh; cases hh
    exact ⟨h1, .inr ⟨g, cap, cur, rfl, hb, (hk.block g hlt (hF g rfl)).trans hh, h3⟩⟩
theorem owns_ltS {w : World} {B : Nat} {e : TypeId} {size n : Nat} {v : Value} {xs : List Value} (h : w.ownsRow B e size v n xs) {b : Nat} (hb : v.ownBlock = some b) : B ≤ b ∧ b < w.heap.size ∧ ∃ cs, w.heap[b]? = some (.cells cs e (0, 0)) := by
  rcases h.2 with ⟨rfl, _⟩ | ⟨g, cap, cur, rfl, hg, hh, _⟩
  · simp [Value.ownBlock] at hb
  · have : b = g := by simpa [Value.ownBlock] using hb.symm
    subst this
    refine ⟨hg, ?_, cur, hh⟩
    rcases Nat.lt_or_ge b w.heap.size with hlt | hge
    · exact hlt
    · rw [Array.getElem?_eq_none hge] at hh; cases hh
theorem OwnSeq.kept {F : Nat → Prop} {B : Nat} {T : TypeId} {w w' : World} {v : Value} {l : List α} (h : OwnSeq C m B T w v l) (hk : Kept F w w') (hF : ∀ b, v.ownBlock = some b → ¬ F b) : OwnSeq C m B T w' v l := ownsRow_keptS h hk hF
theorem owns_neS {w : World} {B : Nat} {e : TypeId} {size n : Nat} {v : Value} {xs : List Value} (h : w.ownsRow B e size v n xs) {b g : Nat} {t : TypeId} {l : List Value} (hb : v.ownBlock = some b) (hg : Has w g t l) (ht : t ≠ e) : g ≠ b := by
  intro q
  subst q
  obtain ⟨_, _, cs, h3⟩ := owns_ltS h hb
  unfold Has at hg
  rw [hg] at h3
  injection h3 with h3
  injection h3 with _ h4 _
  exact ht h4
/-- 'append(l, x)' where l is one's own and x stands in a block: at the operation. -/
theorem wp_append_seq {T S : TypeId} {z : Value} {by_ : Nat} (hC : ∀ x, (C x).length = m) (hm : 0 < m) (h1 : ∀ x, ∀ u ∈ C x, u.oneCell' = true) (B : Nat) (hS : Try.prog.underlying S = some (.slice T))
    (hI : (Try.prog.info? T).map (fun i => (i.zero, i.size, i.bytes)) = some (some z, m, by_)) (hz : z.cells.size = m) (hby : by_ ≤ 1000)
    (w : World) {o : Oper} {a : Act} {K : Act → World → Prop} {Q : Exit → Act → World → Prop} (s x : Operand)
    (ho : o.op = .call { callee := .builtin .append, args := #[s, x], argTypes := #[S, S] }) (v : Value) (l : List α) (y : α) (H c : Nat) (T' : TypeId)
    (hs : a.eval s = v) (hx : a.eval x = .slice (some ⟨H, 0, none⟩) 1 c) (hb : Has w H T' (C y)) (hO : OwnSeq C m B T w v l) (hB : B ≤ w.heap.size) (hlen : l.length ≤ 100000)
    (h : ∀ g cap w', OwnSeq C m B T w' (.slice (some ⟨g, 0, none⟩) (l.length + 1) cap) (l ++ [y]) → Kept (fun b => v.ownBlock = some b) w w' → (v.ownBlock = some g ∨ g = w.heap.size) → g < w'.heap.size → K (a.put o.dst (.slice (some ⟨g, 0, none⟩) (l.length + 1) cap)) w') :
    o.wp Try.prog a w K Q := by
  obtain ⟨i0, hi, hz0, hz1, hz2⟩ := info_parts hI
  refine wp_append_lies _ s x S ho B T i0 z m by_ hS hi hz0 hz1 hz2 hz hm v l.length (l.flatMap C) hs hO ⟨H, 0, none⟩ 1 c (C y) hx (by rw [hC]; omega) ?_ (h1 y) (by decide) (by unfold maxLen; omega) ?_ hB _ rfl ?_
  · intro j u hu
    rw [show (⟨H, 0, none⟩ : Addr).add j = ⟨H, j, none⟩ by unfold Addr.add; split <;> simp_all, hb.cell]
    exact hu
  · have : (l.length + 1) * by_ ≤ 100001 * 1000 := Nat.mul_le_mul (by omega) hby
    omega
  · intro g cap w' hown hgrow hor hlt
    refine h g cap w' ?_ ((Kept.refl _ _).grown hgrow (fun g hg => .inl hg)) hor hlt
    unfold OwnSeq
    rw [List.flatMap_append, List.length_append]
    simpa using hown
/-- .. at a step of a region that draws. -/
theorem step_append_seq {T S : TypeId} {z : Value} {by_ : Nat} (hC : ∀ x, (C x).length = m) (hm : 0 < m) (h1 : ∀ x, ∀ u ∈ C x, u.oneCell' = true) (B : Nat) (hS : Try.prog.underlying S = some (.slice T))
    (hI : (Try.prog.info? T).map (fun i => (i.zero, i.size, i.bytes)) = some (some z, m, by_)) (hz : z.cells.size = m) (hby : by_ ≤ 1000)
    (w : World) {ops : Array Oper} {o : Oper} {a : Act} {K : Act → World → Prop} {Q : Exit → Act → World → Prop} {E : Prop} (hgd : o.guard = none) (s x : Operand)
    (ho : o.op = .call { callee := .builtin .append, args := #[s, x], argTypes := #[S, S] }) (v : Value) (l : List α) (y : α) (H c : Nat) (T' : TypeId)
    (hs : a.eval s = v) (hx : a.eval x = .slice (some ⟨H, 0, none⟩) 1 c) (hb : Has w H T' (C y)) (hO : OwnSeq C m B T w v l) (hB : B ≤ w.heap.size) (hlen : l.length ≤ 100000)
    (h : ∀ g cap w', OwnSeq C m B T w' (.slice (some ⟨g, 0, none⟩) (l.length + 1) cap) (l ++ [y]) → Kept (fun b => v.ownBlock = some b) w w' → (v.ownBlock = some g ∨ g = w.heap.size) → g < w'.heap.size → K (a.put o.dst (.slice (some ⟨g, 0, none⟩) (l.length + 1) cap)) w') :
    if Region.wanted o (yielded ops a.tmps) = true then Oper.wp Try.prog o a w K Q else E := by
  rw [if_pos (by simp [Region.wanted, hgd])]
  exact wp_append_seq hC hm h1 B hS hI hz hby w s x ho v l y H c T' hs hx hb hO hB hlen h
/-- .. at a step of the walk. -/
theorem wpList_append_seq {T S : TypeId} {z : Value} {by_ : Nat} (hC : ∀ x, (C x).length = m) (hm : 0 < m) (h1 : ∀ x, ∀ u ∈ C x, u.oneCell' = true) (B : Nat) (hS : Try.prog.underlying S = some (.slice T))
    (hI : (Try.prog.info? T).map (fun i => (i.zero, i.size, i.bytes)) = some (some z, m, by_)) (hz : z.cells.size = m) (hby : by_ ≤ 1000)
    (w : World) {ops : Array Oper} {rest : List Oper} {o : Oper} {a : Act} {Q : Exit → Act → World → Prop} (hgd : o.guard = none) (s x : Operand)
    (ho : o.op = .call { callee := .builtin .append, args := #[s, x], argTypes := #[S, S] }) (v : Value) (l : List α) (y : α) (H c : Nat) (T' : TypeId)
    (hs : a.eval s = v) (hx : a.eval x = .slice (some ⟨H, 0, none⟩) 1 c) (hb : Has w H T' (C y)) (hO : OwnSeq C m B T w v l) (hB : B ≤ w.heap.size) (hlen : l.length ≤ 100000)
    (h : ∀ g cap w', OwnSeq C m B T w' (.slice (some ⟨g, 0, none⟩) (l.length + 1) cap) (l ++ [y]) → Kept (fun b => v.ownBlock = some b) w w' → (v.ownBlock = some g ∨ g = w.heap.size) → g < w'.heap.size → wpList Try.prog ops Q rest (a.put o.dst (.slice (some ⟨g, 0, none⟩) (l.length + 1) cap)) w') :
    wpList Try.prog ops Q (o :: rest) a w :=
  wpList_plain hgd fun _ hK => wp_append_seq hC hm h1 B hS hI hz hby w s x ho v l y H c T' hs hx hb hO hB hlen fun g cap w' q1 q2 q3 q4 => hK _ _ (h g cap w' q1 q2 q3 q4)
end
/-- A list of structs that came in, opened. -/
theorem open_seq {α : Type} {C : α → List Value} {m : Nat} {p : α → Prop} {S T : TypeId} {H : Type} {enc : TypeId × Value → H} {w : World} {base fuel : Nat} {held : Bool} {v : Value} {x : DataW H × List MemPlace}
    (hS : Try.prog.underlying S = some (.slice T)) (hT : Try.prog.cellsOf T = m) (hm : 0 < m) (hC : ∀ x, (C x).length = m)
    (hel : ∀ fuel cs y, DataW.trod enc Try.prog w base (fun _ => true) held fuel T cs = some y → ∃ x : α, cs = C x ∧ p x)
    (hf : DataW.trod enc Try.prog w base (fun _ => true) held fuel S [v] = some x) : ∃ A cap l, v = .slice A l.length cap ∧ l.length ≤ cap ∧ cap ≤ maxLen ∧ SeqAt C m w A l ∧ ∀ x ∈ l, p x := by
  rcases Deep.open_slice hS hf with ⟨hcs, _⟩ | ⟨ad, len, c, mm, n, D, Pl, hcs, _, hl, hmx, hmm, _, hi⟩
  · simp at hcs
    exact ⟨_, _, [], hcs, Nat.le_refl _, Nat.zero_le _, SeqAt.nil, by simp⟩
  · simp at hcs hmm
    subst hmm
    rw [hT] at hi
    obtain ⟨b, off, spot⟩ := ad
    have e2 : ∀ b off i, (⟨b, off, none⟩ : Addr).add i = ⟨b, off + i, none⟩ := fun b off i => by unfold Addr.add; split <;> simp_all
    by_cases h0 : 0 < len
    · obtain ⟨cs0, hc0, _⟩ := hi 0 (by omega)
      obtain ⟨_, hl0, hat0⟩ := World.cells?_some hc0
      have hs0 := hat0 0 hm
      rw [List.getElem?_eq_getElem (show 0 < cs0.length by omega)] at hs0
      have hspot : spot = none := by simpa [Addr.add] using World.cell?_spot hs0
      subst hspot
      have hlt : b < w.heap.size := by
        have := block_lt_of_cell hs0
        rw [e2, e2] at this
        exact this
      have key : ∀ i, i < len → ∃ x : α, p x ∧ ∀ j u, (C x)[j]? = some u → w.cell? ⟨b, off + i * m + j, none⟩ = some u := by
        intro i hil
        obtain ⟨cs, hc, htr⟩ := hi i (by omega)
        obtain ⟨_, hlc, hat⟩ := World.cells?_some hc
        obtain ⟨x, hx, hp⟩ := hel _ _ _ htr
        refine ⟨x, hp, fun j u hu => ?_⟩
        have hj : j < m := by have := (List.getElem?_eq_some_iff.1 hu).1; rw [hC] at this; exact this
        have := hat j hj
        rw [hx, hu] at this
        simp only [e2] at this
        exact this
      obtain ⟨d, _⟩ := key 0 h0
      obtain ⟨f, hfk⟩ := @Deep.choose_lt α ⟨d⟩ len _ key
      refine ⟨_, mm, (List.range len).map f, by simpa using hcs, by simpa using hl, hmx, fun _ => ⟨b, off, rfl, hlt, fun i x hx => ?_⟩, fun x hx => ?_⟩
      · have hil : i < len := by have := (List.getElem?_eq_some_iff.1 hx).1; simpa using this
        rw [List.getElem?_map, List.getElem?_range hil] at hx
        have : f i = x := by simpa using hx
        subst this
        exact (hfk i hil).2
      · obtain ⟨i, hi, rfl⟩ := List.mem_map.1 hx
        exact (hfk i (by simpa using hi)).1
    · obtain rfl : len = 0 := by omega
      exact ⟨_, mm, [], hcs, Nat.zero_le _, hmx, SeqAt.nil, by simp⟩
end Go.Proofs.Ytljllfopgpmekab
