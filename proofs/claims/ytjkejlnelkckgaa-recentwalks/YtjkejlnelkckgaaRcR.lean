/- Ids in an order, as a ring of links: what joining two of them makes of it. -/
import Derived.Test.YtjkejlnelkckgaaImap
namespace Go.Proofs.Ytjkejlnelkckgaa
set_option linter.unusedVariables false

/-- Links, by ids. -/
abbrev Lk := Int → Option (Int × Int)
def olderI (f : Lk) (k : Int) : Int := ((f k).getD (0, 0)).1
def newerI (f : Lk) (k : Int) : Int := ((f k).getD (0, 0)).2
def putL (f : Lk) (k : Int) (p : Int × Int) : Lk := fun j => if j = k then some p else f j
def delL (f : Lk) (k : Int) : Lk := fun j => if j = k then none else f j
def joinA (f : Lk) (a b : Int) : Lk := putL f a (olderI f a, b)
def joinL (f : Lk) (a b : Int) : Lk := putL (joinA f a b) b (a, newerI (joinA f a b) b)
theorem joinL_older (f : Lk) (a b k : Int) : olderI (joinL f a b) k = if k = b then a else olderI f k := by
  unfold joinL joinA putL olderI newerI
  by_cases h : k = b
  · simp [h]
  · by_cases h2 : k = a
    · subst h2; simp [h]
    · simp [h, h2]
theorem joinL_newer (f : Lk) (a b k : Int) : newerI (joinL f a b) k = if k = a then b else newerI f k := by
  unfold joinL joinA putL olderI newerI
  by_cases h : k = b
  · by_cases h2 : b = a
    · subst h2; simp [h]
    · simp [h, h2]
  · by_cases h2 : k = a
    · subst h2; simp [h]
    · simp [h, h2]
theorem joinL_some (f : Lk) (a b k : Int) : (joinL f a b k).isSome = (decide (k = a) || decide (k = b) || (f k).isSome) := by
  unfold joinL joinA putL
  by_cases h : k = b
  · simp [h]
  · by_cases h2 : k = a
    · subst h2; simp [h]
    · simp [h, h2]
theorem isSome_pair {f : Lk} {k : Int} (h : (f k).isSome = true) : f k = some (olderI f k, newerI f k) := by
  unfold olderI newerI
  cases hh : f k with
  | none => rw [hh] at h; cases h
  | some p => rfl
/-- The i-th one of a ring that ends close: ends stands at 0, and behind all. -/
def ringI (l : List Int) (i : Nat) : Int := (-1 :: l).getD i (-1)
theorem ringI_zero (l : List Int) : ringI l 0 = -1 := rfl
theorem ringI_succ (l : List Int) (i : Nat) : ringI l (i + 1) = l.getD i (-1) := rfl
theorem ringI_at {l : List Int} {i : Nat} {x : Int} (h : l[i]? = some x) : ringI l (i + 1) = x := by
  rw [ringI_succ, List.getD_eq_getElem?_getD, h]; rfl
theorem ringI_end {l : List Int} {i : Nat} (h : l.length < i) : ringI l i = -1 := by
  cases i with
  | zero => rfl
  | succ i => rw [ringI_succ, List.getD_eq_getElem?_getD, List.getElem?_eq_none (by omega)]; rfl
/-- These ids stand in this order. -/
structure RepL (l : List Int) (f : Lk) : Prop where
  dom : ∀ k, (f k).isSome = true ↔ k = -1 ∨ k ∈ l
  adj : ∀ i, i ≤ l.length → newerI f (ringI l i) = ringI l (i + 1) ∧ olderI f (ringI l (i + 1)) = ringI l i
  nd : l.Nodup
  bd : ∀ x ∈ l, 0 ≤ x ∧ x ≤ 9223372036854775807
section
variable {l : List Int} {f : Lk}
theorem ringI_mem {l : List Int} {i : Nat} (h : i < l.length) : ringI l (i + 1) ∈ l := by
  rw [ringI_at (List.getElem?_eq_getElem h)]; exact List.getElem_mem h
theorem RepL.ge (h : RepL l f) {i : Nat} (hi : i < l.length) : 0 ≤ ringI l (i + 1) := (h.bd _ (ringI_mem hi)).1
theorem RepL.inj (h : RepL l f) {i j : Nat} (hi : i ≤ l.length) (hj : j ≤ l.length) (e : ringI l i = ringI l j) : i = j := by
  cases i with
  | zero =>
    cases j with
    | zero => rfl
    | succ j => have := h.ge (i := j) (by omega); rw [← e, ringI_zero] at this; omega
  | succ i =>
    cases j with
    | zero => have := h.ge (i := i) (by omega); rw [e, ringI_zero] at this; omega
    | succ j =>
      rw [ringI_at (List.getElem?_eq_getElem (by omega : i < l.length)), ringI_at (List.getElem?_eq_getElem (by omega : j < l.length))] at e
      have e2 : l[i]? = l[j]? := by rw [List.getElem?_eq_getElem (by omega), List.getElem?_eq_getElem (by omega), e]
      have := (List.getElem?_inj (by omega) h.nd).1 e2
      omega
theorem RepL.inj1 (h : RepL l f) {i j : Nat} (hi : i ≤ l.length) (hj : j ≤ l.length) (e : ringI l (i + 1) = ringI l (j + 1)) : i = j := by
  rcases Nat.lt_or_ge i l.length with hi' | hi'
  · rcases Nat.lt_or_ge j l.length with hj' | hj'
    · have := h.inj (i := i + 1) (j := j + 1) (by omega) (by omega) e; omega
    · have := h.ge hi'; rw [e, ringI_end (l := l) (i := j + 1) (by omega)] at this; omega
  · rcases Nat.lt_or_ge j l.length with hj' | hj'
    · have := h.ge hj'; rw [← e, ringI_end (l := l) (i := i + 1) (by omega)] at this; omega
    · omega
theorem RepL.no (h : RepL l f) {k : Int} (h1 : k ≠ -1) (h2 : k ∉ l) : f k = none := by
  cases hh : f k with
  | none => rfl
  | some p => rcases (h.dom k).1 (by rw [hh]; rfl) with q | q
              · exact absurd q h1
              · exact absurd q h2
theorem RepL.at_end (h : RepL l f) : f (-1) = some (ringI l l.length, ringI l 1) := by
  rw [isSome_pair ((h.dom (-1)).2 (.inl rfl))]
  have h1 := (h.adj 0 (Nat.zero_le _)).1
  have h2 := (h.adj l.length (Nat.le_refl _)).2
  rw [ringI_zero] at h1
  rw [ringI_end (l := l) (i := l.length + 1) (by omega)] at h2
  rw [h1, h2]
theorem RepL.at_in (h : RepL l f) {i : Nat} {x : Int} (hx : l[i]? = some x) : f x = some (ringI l i, ringI l (i + 2)) := by
  have hi := (List.getElem?_eq_some_iff.1 hx).1
  have e := ringI_at hx
  rw [isSome_pair ((h.dom x).2 (.inr (List.mem_of_getElem? hx)))]
  have h1 := (h.adj (i + 1) (by omega)).1
  have h2 := (h.adj i (by omega)).2
  rw [e] at h1 h2
  rw [h1, h2]
theorem RepL.new : RepL [] (putL (fun _ => none) (-1) (-1, -1)) := by
  refine ⟨fun k => ?_, fun i hi => ?_, List.nodup_nil, by simp⟩
  · unfold putL
    by_cases h : k = -1 <;> simp [h]
  · have : i = 0 := by simpa using hi
    subst this
    exact ⟨rfl, rfl⟩
theorem ringI_cut (l1 l2 : List Int) (x : Int) (i : Nat) : ringI (l1 ++ l2) i = if i ≤ l1.length then ringI (l1 ++ x :: l2) i else ringI (l1 ++ x :: l2) (i + 1) := by
  cases i with
  | zero => rfl
  | succ i =>
    simp only [ringI_succ, List.getD_eq_getElem?_getD]
    split
    · rw [List.getElem?_append_left (by omega), List.getElem?_append_left (by omega)]
    · rw [List.getElem?_append_right (by omega), List.getElem?_append_right (by omega), show i + 1 - l1.length = (i - l1.length) + 1 by omega, List.getElem?_cons_succ]
theorem delL_older (f : Lk) (x k : Int) (h : k ≠ x) : olderI (delL f x) k = olderI f k := by unfold delL olderI; simp only [if_neg h]
theorem delL_newer (f : Lk) (x k : Int) (h : k ≠ x) : newerI (delL f x) k = newerI f k := by unfold delL newerI; simp only [if_neg h]
/-- One is taken out. -/
theorem RepL.unlink {l1 l2 : List Int} {x : Int} (h : RepL (l1 ++ x :: l2) f) : RepL (l1 ++ l2) (joinL (delL f x) (ringI (l1 ++ x :: l2) l1.length) (ringI (l1 ++ x :: l2) (l1.length + 2))) := by
  obtain ⟨l, hl⟩ : ∃ l, l1 ++ x :: l2 = l := ⟨_, rfl⟩
  have hlen : l.length = l1.length + l2.length + 1 := by rw [← hl]; simp; omega
  have hcut := fun i => ringI_cut l1 l2 x i
  have hxl : ringI l (l1.length + 1) = x := ringI_at (by rw [← hl]; simp)
  have hnd := h.nd
  have hmem : ∀ k, k ∈ l1 ++ l2 ↔ k ∈ l ∧ k ≠ x := fun k => by
    rw [← hl]
    have q := hnd
    obtain ⟨n1, n2, n3⟩ := List.nodup_append.1 q
    obtain ⟨n4, n5⟩ := List.nodup_cons.1 n2
    constructor
    · intro hk
      refine ⟨by rcases List.mem_append.1 hk with r | r <;> simp [r], fun e => ?_⟩
      subst e
      rcases List.mem_append.1 hk with r | r
      · exact n3 k r k (by simp) rfl
      · exact n4 r
    · rintro ⟨hk, hne⟩
      rcases List.mem_append.1 hk with r | r
      · simp [r]
      · rcases List.mem_cons.1 r with r | r
        · exact absurd r hne
        · simp [r]
  rw [hl] at h hcut ⊢
  have xin : x ∈ l := by rw [← hl]; simp
  have x0 := (h.bd x xin).1
  have hne : ∀ i, i ≤ l.length → i ≠ l1.length + 1 → ringI l i ≠ x := fun i hi hn e => hn (h.inj hi (by omega) (e.trans hxl.symm))
  have hne2 : ∀ i, i ≤ l.length + 1 → i ≠ l1.length + 1 → ringI l i ≠ x := fun i hi hn e => by
    rcases Nat.lt_or_ge l.length i with g | g
    · rw [ringI_end g] at e; omega
    · exact hne i g hn e
  refine ⟨fun k => ?_, fun i hi => ?_, ?_, ?_⟩
  · rw [joinL_some]
    have d : (delL f x k).isSome = true ↔ k ≠ x ∧ (k = -1 ∨ k ∈ l) := by
      unfold delL
      by_cases e : k = x
      · simp [e]
      · simp only [if_neg e]; rw [h.dom]; simp [e]
    have a1 : ringI l l1.length = -1 ∨ ringI l l1.length ∈ l1 ++ l2 := by
      cases hq : l1.length with
      | zero => exact .inl rfl
      | succ q => refine .inr ((hmem _).2 ⟨ringI_mem (by omega), ?_⟩); exact hne _ (by omega) (by omega)
    have a2 : ringI l (l1.length + 2) = -1 ∨ ringI l (l1.length + 2) ∈ l1 ++ l2 := by
      rcases Nat.lt_or_ge (l1.length + 1) l.length with g | g
      · exact .inr ((hmem _).2 ⟨ringI_mem g, hne _ (by omega) (by omega)⟩)
      · exact .inl (ringI_end (by omega))
    rw [Bool.or_eq_true, Bool.or_eq_true, decide_eq_true_iff, decide_eq_true_iff, d, hmem]
    constructor
    · rintro ((e | e) | ⟨h1, h2⟩)
      · rw [e]; exact a1.imp id (fun q => (hmem _).1 q)
      · rw [e]; exact a2.imp id (fun q => (hmem _).1 q)
      · exact h2.imp id (fun q => ⟨q, h1⟩)
    · rintro (e | ⟨h1, h2⟩)
      · exact .inr ⟨by omega, .inl e⟩
      · exact .inr ⟨h2, .inr h1⟩
  · have hi' : i + 1 ≤ l.length := by rw [List.length_append] at hi; omega
    rw [joinL_newer, joinL_older]
    rcases Nat.lt_trichotomy i l1.length with g | g | g
    · rw [show ringI (l1 ++ l2) i = ringI l i by rw [hcut, if_pos (by omega)], show ringI (l1 ++ l2) (i + 1) = ringI l (i + 1) by rw [hcut, if_pos (by omega)],
        if_neg (fun e => by have := h.inj (by omega) (by omega) e; omega), if_neg (fun e => by have := h.inj1 (i := i) (j := l1.length + 1) (by omega) (by omega) e; omega), delL_newer _ _ _ (hne _ (by omega) (by omega)), delL_older _ _ _ (hne _ (by omega) (by omega))]
      exact h.adj i (by omega)
    · subst g
      rw [show ringI (l1 ++ l2) l1.length = ringI l l1.length by rw [hcut, if_pos (by omega)], show ringI (l1 ++ l2) (l1.length + 1) = ringI l (l1.length + 2) by rw [hcut, if_neg (by omega)], if_pos rfl, if_pos rfl]
      exact ⟨rfl, rfl⟩
    · rw [show ringI (l1 ++ l2) i = ringI l (i + 1) by rw [hcut, if_neg (by omega)], show ringI (l1 ++ l2) (i + 1) = ringI l (i + 2) by rw [hcut, if_neg (by omega)],
        if_neg (fun e => by have := h.inj (by omega) (by omega) e; omega), if_neg (fun e => by have := h.inj1 (i := i + 1) (j := l1.length + 1) (by omega) (by omega) e; omega), delL_newer _ _ _ (hne _ (by omega) (by omega)), delL_older _ _ _ (hne2 _ (by omega) (by omega))]
      exact h.adj (i + 1) (by omega)
  · obtain ⟨n1, n2, n3⟩ := List.nodup_append.1 hnd
    exact List.nodup_append.2 ⟨n1, (List.nodup_cons.1 n2).2, fun a ha b hb => n3 a ha b (by simp [hb])⟩
  · intro y hy
    exact h.bd y ((hmem y).1 hy).1
/-- One that is not there is made the last one. -/
theorem RepL.link (h : RepL l f) {x : Int} (hx : x ∉ l) (h0 : 0 ≤ x) (h1 : x ≤ 9223372036854775807) : RepL (l ++ [x]) (joinL (joinL f (ringI l l.length) x) x (-1)) := by
  have hp : ∀ i, ringI (l ++ [x]) i = if i ≤ l.length then ringI l i else if i = l.length + 1 then x else -1 := fun i => by
    cases i with
    | zero => rfl
    | succ i =>
      simp only [ringI_succ, List.getD_eq_getElem?_getD]
      split
      · rw [List.getElem?_append_left (by omega)]
      · rw [List.getElem?_append_right (by omega)]
        split
        · rw [show i - l.length = 0 by omega]; rfl
        · rw [List.getElem?_eq_none (by simp; omega)]; rfl
  have hne : ∀ i, i ≤ l.length → ringI l i ≠ x := fun i hi e => by
    cases i with
    | zero => rw [ringI_zero] at e; omega
    | succ i => exact hx (e ▸ ringI_mem (by omega))
  refine ⟨fun k => ?_, fun i hi => ?_, ?_, ?_⟩
  · rw [joinL_some, joinL_some]
    have a1 : ringI l l.length = -1 ∨ ringI l l.length ∈ l := by
      cases hq : l.length with
      | zero => exact .inl rfl
      | succ q => exact .inr (ringI_mem (by omega))
    simp only [Bool.or_eq_true, decide_eq_true_iff, h.dom, List.mem_append, List.mem_singleton]
    constructor
    · rintro ((e | e) | ((e | e) | (e | e)))
      · exact .inr (.inr e)
      · exact .inl e
      · rw [e]; exact a1.imp id .inl
      · exact .inr (.inr e)
      · exact .inl e
      · exact .inr (.inl e)
    · rintro (e | e | e)
      · exact .inl (.inr e)
      · exact .inr (.inr (.inr e))
      · exact .inl (.inl e)
  · rw [List.length_append, List.length_singleton] at hi
    rw [joinL_newer, joinL_older, joinL_newer, joinL_older]
    rcases Nat.lt_trichotomy i l.length with g | g | g
    · rw [show ringI (l ++ [x]) i = ringI l i by rw [hp, if_pos (by omega)], show ringI (l ++ [x]) (i + 1) = ringI l (i + 1) by rw [hp, if_pos (by omega)],
        if_neg (hne _ (by omega)), if_neg (fun e => by have := h.inj (by omega) (by omega) e; omega), if_neg (fun e => by have := h.ge (i := i) (by omega); omega), if_neg (hne _ (by omega))]
      exact h.adj i (by omega)
    · subst g
      rw [show ringI (l ++ [x]) l.length = ringI l l.length by rw [hp, if_pos (by omega)], show ringI (l ++ [x]) (l.length + 1) = x by rw [hp, if_neg (by omega), if_pos rfl],
        if_neg (hne _ (by omega)), if_pos rfl, if_neg (by omega), if_pos rfl]
      exact ⟨rfl, rfl⟩
    · have : i = l.length + 1 := by omega
      subst this
      rw [show ringI (l ++ [x]) (l.length + 1) = x by rw [hp, if_neg (by omega), if_pos rfl], show ringI (l ++ [x]) (l.length + 1 + 1) = -1 by rw [hp, if_neg (by omega), if_neg (by omega)], if_pos rfl, if_pos rfl]
      exact ⟨rfl, rfl⟩
  · refine List.nodup_append.2 ⟨h.nd, by simp, fun a ha b hb => ?_⟩
    rw [List.mem_singleton.1 hb]
    rintro rfl
    exact hx ha
  · intro y hy
    rcases List.mem_append.1 hy with q | q
    · exact h.bd y q
    · rw [List.mem_singleton.1 q]; exact ⟨h0, h1⟩
theorem RepL.erase_eq {l1 l2 : List Int} {x : Int} (h : (l1 ++ x :: l2).Nodup) : (l1 ++ x :: l2).erase x = l1 ++ l2 := by
  obtain ⟨n1, n2, n3⟩ := List.nodup_append.1 h
  rw [List.erase_append_right _ (fun hm => n3 x hm x (by simp) rfl), List.erase_cons_head]
end
end Go.Proofs.Ytjkejlnelkckgaa
