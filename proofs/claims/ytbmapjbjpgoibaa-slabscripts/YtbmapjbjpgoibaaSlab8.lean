/- A slab that may be: what its calls keep of that. -/
import Derived.Test.YtbmapjbjpgoibaaSlab7
namespace Go.Proofs.Ytbmapjbjpgoibaa
open Go.ChangeShapes Go.WideShapes Go.ChangeAt Go.RowKit
set_option linter.unusedVariables false

theorem SlabIn.store {FT : Nat → Prop} {w : World} {bP bC bF k : Nat} {s : Sl} (h : SlabIn FT w bP bC bF k s) {g : Nat} (hg : ¬ FT g) (i : Nat) (v : Value) : SlabIn FT (w.setCell ⟨g, i, none⟩ v) bP bC bF k s :=
  h.kept (G := fun x => x = g) ((Kept.refl (fun x => x = g) w).setCell (p := ⟨g, i, none⟩) (.inl rfl) v) (fun x hx e => hg (e ▸ hx))
theorem SlabIn.alloc {FT : Nat → Prop} {w : World} {bP bC bF k : Nat} {s : Sl} (h : SlabIn FT w bP bC bF k s) (o : Obj) : SlabIn FT (w.alloc o) bP bC bF k s := h.below ((Below.refl _ w).alloc (Nat.le_refl _) o)
theorem SlabIn.not_new {FT : Nat → Prop} {w : World} {bP bC bF k : Nat} {s : Sl} (h : SlabIn FT w bP bC bF k s) {g : Nat} (hg : w.heap.size ≤ g) : ¬ FT g := fun hf => by have := h.lt hf; omega

theorem nodup_len (n : Nat) : ∀ l : List Nat, l.Nodup → (∀ x ∈ l, x < n) → l.length ≤ n := by
  induction n with
  | zero => intro l _ h; cases l with
    | nil => simp
    | cons a l => exact absurd (h a (by simp)) (by omega)
  | succ n ih =>
    intro l hn h
    by_cases hm : n ∈ l
    · have h1 := ih (l.erase n) (hn.erase n) (fun x hx => by
        have h2 := (hn.mem_erase_iff).1 hx
        have := h x h2.2
        omega)
      rw [List.length_erase_of_mem hm] at h1
      omega
    · have := ih l hn (fun x hx => by
        have h2 := h x hx
        have h3 : x ≠ n := fun e => hm (e ▸ hx)
        omega)
      omega

/-- A slab that may be: free are just those that are not taken, each once; generations are at most G. -/
structure Sl.Ok (s : Sl) (G : Nat) : Prop where
  nd : s.free.Nodup
  fr : ∀ i c, s.cells[i]? = some c → (i ∈ s.free ↔ c.taken = false)
  lt : ∀ i ∈ s.free, i < s.cells.length
  gn : ∀ c ∈ s.cells, c.gen ≤ G
theorem Sl.Ok.room {s : Sl} {G i : Nat} {c : SC} (h : s.Ok G) (hc : s.cells[i]? = some c) (ht : c.taken = true) : s.free.length < s.cells.length := by
  have h1 : i ∉ s.free := fun hm => by have := (h.fr i c hc).1 hm; rw [ht] at this; cases this
  have := nodup_len s.cells.length (i :: s.free) (List.nodup_cons.2 ⟨h1, h.nd⟩) (fun x hx => by
    rcases List.mem_cons.1 hx with rfl | hx
    · exact (List.getElem?_eq_some_iff.1 hc).1
    · exact h.lt x hx)
  simp at this
  omega
theorem Sl.Ok.mono {s : Sl} {G G' : Nat} (h : s.Ok G) (hG : G ≤ G') : s.Ok G' := ⟨h.nd, h.fr, h.lt, fun c hc => Nat.le_trans (h.gn c hc) hG⟩
theorem getElem?_put {s : Sl} {i j : Nat} {c' : SC} {fr : List Nat} (hi : i < s.cells.length) : (s.put i c' fr).cells[j]? = if i = j then some c' else s.cells[j]? := by
  show (s.cells.set i c')[j]? = _
  rw [List.getElem?_set]
  by_cases e : i = j
  · rw [if_pos e, if_pos e, if_pos hi]
  · rw [if_neg e, if_neg e]
theorem put_len (s : Sl) (i : Nat) (c' : SC) (fr : List Nat) : (s.put i c' fr).cells.length = s.cells.length := by simp [Sl.put]
theorem put_mem {s : Sl} {i : Nat} {c' x : SC} {fr : List Nat} (h : x ∈ (s.put i c' fr).cells) : x ∈ s.cells ∨ x = c' := List.mem_or_eq_of_mem_set h
theorem Sl.Ok.take {s : Sl} {G i : Nat} {c c' : SC} {fs : List Nat} (h : s.Ok G) (hc : s.cells[i]? = some c) (hf : s.free = fs ++ [i]) (ht : c'.taken = true) (hg : c'.gen = c.gen) : (s.put i c' fs).Ok G := by
  have hi : i < s.cells.length := (List.getElem?_eq_some_iff.1 hc).1
  have hn := h.nd
  rw [hf, List.nodup_append] at hn
  have hni : i ∉ fs := fun hm => hn.2.2 i hm i (by simp) rfl
  refine ⟨hn.1, fun j d hd => ?_, fun j hj => by rw [put_len]; exact h.lt j (by rw [hf]; simp [show j ∈ fs from hj]), fun d hd => ?_⟩
  · rw [getElem?_put hi] at hd
    by_cases e : i = j
    · rw [if_pos e] at hd
      injection hd with hd
      subst hd
      subst e
      rw [ht]
      exact ⟨fun hm => absurd hm hni, fun hh => by cases hh⟩
    · rw [if_neg e] at hd
      have := h.fr j d hd
      rw [hf] at this
      simp only [List.mem_append, List.mem_singleton] at this
      rw [← this]
      exact ⟨fun hm => .inl hm, fun hm => hm.elim id (fun x => absurd x.symm e)⟩
  · rcases put_mem hd with hm | rfl
    · exact h.gn d hm
    · rw [hg]; exact h.gn c (List.mem_of_getElem? hc)
theorem Sl.Ok.give {s : Sl} {G i : Nat} {c : SC} (h : s.Ok G) (hc : s.cells[i]? = some c) (ht : c.taken = true) : (s.put i { c with taken := false, gen := c.gen + 1 } (s.free ++ [i])).Ok (G + 1) := by
  have hi : i < s.cells.length := (List.getElem?_eq_some_iff.1 hc).1
  have hni : i ∉ s.free := fun hm => by have := (h.fr i c hc).1 hm; rw [ht] at this; cases this
  refine ⟨?_, fun j d hd => ?_, fun j hj => ?_, fun d hd => ?_⟩
  · show (s.free ++ [i]).Nodup
    rw [List.nodup_append]
    exact ⟨h.nd, by simp, fun a ha b hb e => hni ((e.trans (List.mem_singleton.1 hb)) ▸ ha)⟩
  · rw [getElem?_put hi] at hd
    show j ∈ s.free ++ [i] ↔ _
    by_cases e : i = j
    · rw [if_pos e] at hd
      injection hd with hd
      subst hd
      subst e
      simp
    · rw [if_neg e] at hd
      rw [← h.fr j d hd]
      simp only [List.mem_append, List.mem_singleton]
      exact ⟨fun hm => hm.elim id (fun x => absurd x.symm e), fun hm => .inl hm⟩
  · rw [put_len]
    rcases List.mem_append.1 (show j ∈ s.free ++ [i] from hj) with hj | hj
    · exact h.lt j hj
    · simp at hj; omega
  · rcases put_mem hd with hm | rfl
    · exact Nat.le_succ_of_le (h.gn d hm)
    · exact Nat.succ_le_succ (h.gn c (List.mem_of_getElem? hc))
theorem Sl.Ok.write {s : Sl} {G i : Nat} {c : SC} {ns : List Nat} (h : s.Ok G) (hc : s.cells[i]? = some c) : (s.put i { c with ws := ns } s.free).Ok G := by
  have hi : i < s.cells.length := (List.getElem?_eq_some_iff.1 hc).1
  refine ⟨h.nd, fun j d hd => ?_, fun j hj => by rw [put_len]; exact h.lt j hj, fun d hd => ?_⟩
  · rw [getElem?_put hi] at hd
    by_cases e : i = j
    · rw [if_pos e] at hd
      injection hd with hd
      subst hd
      subst e
      exact h.fr i c hc
    · rw [if_neg e] at hd
      exact h.fr j d hd
  · rcases put_mem hd with hm | rfl
    · exact h.gn d hm
    · exact h.gn c (List.mem_of_getElem? hc)
theorem Sl.Ok.new (n k : Nat) (bs : List Nat) (hl : bs.length = n) : (newS n k bs).Ok 0 := by
  refine ⟨?_, fun i c hc => ?_, fun i hi => ?_, fun c hc => ?_⟩
  · show ((List.range n).map fun i => n - 1 - i).Nodup
    rw [List.nodup_iff_pairwise_ne, List.pairwise_map]
    refine List.Pairwise.imp_of_mem (R := (· < ·)) ?_ List.pairwise_lt_range
    intro a b ha hb hab
    simp at ha hb
    omega
  · simp only [newS, List.getElem?_map] at hc
    have hi : i < n := by
      rcases Nat.lt_or_ge i bs.length with h | h
      · omega
      · rw [List.getElem?_eq_none h] at hc; cases hc
    cases hb : bs[i]? with
    | none => rw [hb] at hc; cases hc
    | some b =>
      rw [hb] at hc
      simp at hc
      subst hc
      simp [newS]
      exact ⟨n - 1 - i, by omega, by omega⟩
  · simp [newS] at hi ⊢
    omega
  · simp only [newS, List.mem_map] at hc
    obtain ⟨b, _, rfl⟩ := hc
    exact Nat.le_refl _
end Go.Proofs.Ytbmapjbjpgoibaa
