/- The document's map as a rising list of pairs: pure. -/
import Derived.Test.YtgcdminjpdbchaaDoorMem2
import Derived.Sort.Walk0
namespace Go.Proofs.YtgcdminjpdbchaaDoor
set_option linter.unusedVariables false

def ll (a b : List UInt8) : Prop := a < b
theorem ll_irrefl (a : List UInt8) : ¬ ll a a := List.lt_irrefl a
theorem ll_trans {a b c : List UInt8} (h : ll a b) (k : ll b c) : ll a c := List.lt_trans h k
theorem ll_tri {a b : List UInt8} (h : ¬ ll a b) (k : ¬ ll b a) : a = b := List.le_antisymm (List.not_lt.1 k) (List.not_lt.1 h)
def kl (a b : ByteArray) : Prop := ll a.data.toList b.data.toList
theorem kl_irrefl (a : ByteArray) : ¬ kl a a := ll_irrefl _
theorem kl_trans {a b c : ByteArray} (h : kl a b) (k : kl b c) : kl a c := ll_trans h k
theorem key_ext {a b : ByteArray} (h : a.data.toList = b.data.toList) : a = b := ByteArray.ext (Array.ext' h)
theorem kl_tri {a b : ByteArray} (h : ¬ kl a b) (k : ¬ kl b a) : a = b := key_ext (ll_tri h k)
theorem kl_ne {a b : ByteArray} (h : kl a b) : a ≠ b := fun e => kl_irrefl b (e ▸ h)
/-- Two rising lists with the same members are the same. -/
theorem rising_eq : ∀ (l m : List (List UInt8)), l.Pairwise ll → m.Pairwise ll → (∀ x, x ∈ l ↔ x ∈ m) → l = m
  | [], [], _, _, _ => rfl
  | [], b :: m, _, _, h => by have := (h b).2 (by simp); simp at this
  | a :: l, [], _, _, h => by have := (h a).1 (by simp); simp at this
  | a :: l, b :: m, h1, h2, h => by
    rw [List.pairwise_cons] at h1 h2
    have e : a = b := by
      have ha := (h a).1 (by simp)
      have hb := (h b).2 (by simp)
      rcases List.mem_cons.1 ha with e | ha
      · exact e
      · rcases List.mem_cons.1 hb with e | hb
        · exact e.symm
        · exact absurd (ll_trans (h1.1 b hb) (h2.1 a ha)) (ll_irrefl a)
    subst e
    rw [rising_eq l m h1.2 h2.2 (fun x => ?_)]
    constructor
    · intro hx
      rcases List.mem_cons.1 ((h x).1 (List.mem_cons_of_mem _ hx)) with e | q
      · exact absurd (h1.1 x hx) (by rw [e]; exact ll_irrefl _)
      · exact q
    · intro hx
      rcases List.mem_cons.1 ((h x).2 (List.mem_cons_of_mem _ hx)) with e | q
      · exact absurd (h2.1 x hx) (by rw [e]; exact ll_irrefl _)
      · exact q
/-- A list that sort has put in order, of texts that are all unlike, is rising. -/
theorem rising_sort (l : List (List UInt8)) (h : l.Nodup) : (l.mergeSort fun x y => decide (x ≤ y)).Pairwise ll := by
  have h1 : (l.mergeSort fun x y => decide (x ≤ y)).Pairwise fun a b => decide (a ≤ b) = true :=
    List.pairwise_mergeSort (fun a b c h1 h2 => by simp at *; exact List.le_trans h1 h2) (fun a b => by simp; exact List.le_total a b) l
  have h2 : (l.mergeSort fun x y => decide (x ≤ y)).Nodup := (List.mergeSort_perm _ _).nodup_iff.2 h
  refine (h1.and h2).imp ?_
  rintro a b ⟨p, q⟩
  have p' : a ≤ b := by simpa using p
  unfold ll
  rcases Classical.em (a < b) with e | e
  · exact e
  · exact absurd (List.le_antisymm p' (List.not_lt.1 e)) q
abbrev Pr := ByteArray × Int
def Up (l : List Pr) : Prop := l.Pairwise fun p q => kl p.1 q.1
/-- A rising list that has just what a map has. -/
structure LM (l : List Pr) (M : ByteArray → Option Int) : Prop where
  up : Up l
  iff : ∀ k v, M k = some v ↔ (k, v) ∈ l
theorem LM.new : LM [] (fun _ => none) := ⟨List.Pairwise.nil, fun k v => by simp⟩
/-- Where a key belongs. -/
structure Place (l : List Pr) (k : ByteArray) (i : Nat) : Prop where
  le : i ≤ l.length
  lo : ∀ p ∈ l.take i, kl p.1 k
  hi : ∀ p, l[i]? = some p → ¬ kl p.1 k
section
variable {l : List Pr} {M : ByteArray → Option Int} {k : ByteArray} {i : Nat}
theorem Place.rest (h : Place l k i) (hu : Up l) : ∀ p ∈ l.drop i, p.1 = k ∨ kl k p.1 := by
  intro p hp
  obtain ⟨j, hj, e⟩ := List.mem_iff_getElem.1 hp
  rw [List.getElem_drop] at e
  have hi := h.hi
  have hlt : i < l.length := by rw [List.length_drop] at hj; omega
  have h0 := hi l[i] (List.getElem?_eq_getElem hlt)
  by_cases q : j = 0
  · subst q
    simp at e
    rw [e] at h0
    by_cases q2 : kl k p.1
    · exact .inr q2
    · exact .inl (kl_tri h0 q2)
  · have hq : kl (l[i]).1 p.1 := by
      have := List.pairwise_iff_getElem.1 hu i (i + j) hlt (by rw [List.length_drop] at hj; omega) (by omega)
      rw [e] at this
      exact this
    by_cases q2 : (l[i]).1 = k
    · exact .inr (q2 ▸ hq)
    · have : kl k (l[i]).1 := by
        by_cases q3 : kl k (l[i]).1
        · exact q3
        · exact absurd (kl_tri h0 q3) q2
      exact .inr (kl_trans this hq)
/-- The key is there just if it is the next one. -/
theorem Place.is (h : Place l k i) (hm : LM l M) {p : Pr} (hp : l[i]? = some p) (e : p.1 = k) : M k = some p.2 := (hm.iff k p.2).2 (by rw [← e]; exact List.mem_of_getElem? hp)
theorem Place.no (h : Place l k i) (hm : LM l M) (hn : ∀ p, l[i]? = some p → p.1 ≠ k) : M k = none := by
  cases q : M k with
  | none => rfl
  | some v =>
    have hmem := (hm.iff k v).1 q
    rw [← List.take_append_drop i l] at hmem
    rcases List.mem_append.1 hmem with hp | hp
    · exact absurd (h.lo _ hp) (kl_irrefl k)
    · obtain ⟨j, hj, e⟩ := List.mem_iff_getElem.1 hp
      rw [List.getElem_drop] at e
      have hlt : i < l.length := by rw [List.length_drop] at hj; omega
      have h0 := List.getElem?_eq_getElem hlt
      by_cases q0 : j = 0
      · subst q0
        simp at e
        exact absurd (by rw [e]) (hn _ h0)
      · have hq : kl (l[i]).1 k := by
          have := List.pairwise_iff_getElem.1 hm.up i (i + j) hlt (by rw [List.length_drop] at hj; omega) (by omega)
          rw [e] at this
          exact this
        exact absurd hq (h.hi _ h0)
/-- A new key. -/
theorem LM.put (hm : LM l M) (h : Place l k i) (hn : M k = none) (v : Int) : LM (l.take i ++ (k, v) :: l.drop i) (fun x => if x = k then some v else M x) := by
  have hr : ∀ p ∈ l.drop i, kl k p.1 := fun p hp => (h.rest hm.up p hp).resolve_left (fun e => by
    have := (hm.iff p.1 p.2).2 (List.mem_of_mem_drop hp)
    rw [e, hn] at this
    cases this)
  have hu := hm.up
  unfold Up at hu
  rw [← List.take_append_drop i l, List.pairwise_append] at hu
  obtain ⟨u1, u2, u3⟩ := hu
  refine ⟨?_, fun k' v' => ?_⟩
  · unfold Up
    rw [List.pairwise_append, List.pairwise_cons]
    refine ⟨u1, ⟨hr, u2⟩, fun p hp q hq => ?_⟩
    rcases List.mem_cons.1 hq with rfl | hq
    · exact h.lo p hp
    · exact u3 p hp q hq
  · have e : (k', v') ∈ l ↔ (k', v') ∈ l.take i ∨ (k', v') ∈ l.drop i := by rw [← List.mem_append, List.take_append_drop]
    rw [List.mem_append, List.mem_cons]
    by_cases q : k' = k
    · rw [if_pos q]
      have h1 : (k', v') ∉ l := fun q2 => by have := (hm.iff k' v').2 q2; rw [q, hn] at this; cases this
      rw [e] at h1
      constructor
      · intro q2; exact .inr (.inl (by rw [q, Option.some.inj q2]))
      · rintro (q2 | q2 | q2)
        · exact absurd (.inl q2) h1
        · rw [(Prod.mk.inj q2).2]
        · exact absurd (.inr q2) h1
    · rw [if_neg q, hm.iff, e]
      constructor
      · rintro (q2 | q2)
        · exact .inl q2
        · exact .inr (.inr q2)
      · rintro (q2 | q2 | q2)
        · exact .inl q2
        · exact absurd (Prod.mk.inj q2).1 q
        · exact .inr q2
theorem LM.one (hm : LM l M) {k : ByteArray} {a b : Int} (ha : (k, a) ∈ l) (hb : (k, b) ∈ l) : a = b := by
  have h1 := (hm.iff k a).2 ha
  have h2 := (hm.iff k b).2 hb
  rw [h1] at h2
  exact Option.some.inj h2
/-- A key that is there anew. -/
theorem LM.set (hm : LM l M) {p : Pr} (hp : l[i]? = some p) (v : Int) : LM (l.set i (p.1, v)) (fun x => if x = p.1 then some v else M x) := by
  obtain ⟨hlt, hpe⟩ := List.getElem?_eq_some_iff.1 hp
  have hu := hm.up
  refine ⟨?_, fun k' v' => ?_⟩
  · unfold Up at *
    rw [List.pairwise_iff_getElem] at hu ⊢
    intro a b ha hb hab
    rw [List.length_set] at ha hb
    have := hu a b ha hb hab
    have e : ∀ c (hc : c < (l.set i (p.1, v)).length), ((l.set i (p.1, v))[c]).1 = (l[c]'(by simpa using hc)).1 := fun c hc => by
      rw [List.getElem_set]
      by_cases q : i = c
      · subst q; rw [if_pos rfl, hpe]
      · rw [if_neg q]
    rw [e a (by simpa using ha), e b (by simpa using hb)]
    exact this
  · constructor
    · intro q
      by_cases e : k' = p.1
      · rw [if_pos e] at q
        rw [e, ← Option.some.inj q]
        exact List.mem_iff_getElem.2 ⟨i, by simpa using hlt, by simp⟩
      · rw [if_neg e] at q
        obtain ⟨j, hj, e2⟩ := List.mem_iff_getElem.1 ((hm.iff k' v').1 q)
        refine List.mem_iff_getElem.2 ⟨j, by simpa using hj, ?_⟩
        rw [List.getElem_set, if_neg, e2]
        intro e3
        subst e3
        rw [hpe] at e2
        exact e (by rw [e2])
    · intro q
      obtain ⟨j, hj, e2⟩ := List.mem_iff_getElem.1 q
      rw [List.getElem_set] at e2
      by_cases e3 : i = j
      · rw [if_pos e3] at e2
        have := Prod.mk.inj e2
        rw [if_pos this.1.symm, this.2]
      · rw [if_neg e3] at e2
        rw [List.length_set] at hj
        have hne : k' ≠ p.1 := fun e4 => by
          rcases Nat.lt_or_gt_of_ne e3 with g | g
          · have := List.pairwise_iff_getElem.1 hu i j hlt hj g
            rw [e2, hpe] at this
            exact kl_ne this e4.symm
          · have := List.pairwise_iff_getElem.1 hu j i hj hlt g
            rw [e2, hpe] at this
            exact kl_ne this e4
        rw [if_neg hne]
        exact (hm.iff k' v').2 (by rw [← e2]; exact List.getElem_mem _)
/-- A key that goes. -/
theorem LM.del (hm : LM l M) {p : Pr} (hp : l[i]? = some p) : LM (l.take i ++ l.drop (i + 1)) (fun x => if x = p.1 then none else M x) := by
  obtain ⟨hlt, hpe⟩ := List.getElem?_eq_some_iff.1 hp
  have hl : l = l.take i ++ p :: l.drop (i + 1) := by
    conv => lhs; rw [← List.take_append_drop i l, List.drop_eq_getElem_cons hlt, hpe]
  have hu := hm.up
  unfold Up at hu
  rw [hl, List.pairwise_append, List.pairwise_cons] at hu
  obtain ⟨u1, ⟨u2, u3⟩, u4⟩ := hu
  refine ⟨?_, fun k' v' => ?_⟩
  · unfold Up
    rw [List.pairwise_append]
    exact ⟨u1, u3, fun a ha b hb => u4 a ha b (List.mem_cons_of_mem _ hb)⟩
  · have e : (k', v') ∈ l ↔ (k', v') ∈ l.take i ∨ (k', v') = p ∨ (k', v') ∈ l.drop (i + 1) := by
      conv => lhs; rw [hl]
      rw [List.mem_append, List.mem_cons]
    rw [List.mem_append]
    by_cases q : k' = p.1
    · rw [if_pos q]
      constructor
      · intro h; cases h
      · rintro (h | h)
        · exact absurd q (kl_ne (u4 _ h p (by simp)))
        · exact absurd q.symm (kl_ne (u2 _ h))
    · rw [if_neg q, hm.iff, e]
      constructor
      · rintro (h | h | h)
        · exact .inl h
        · exact absurd (by rw [← h]) q
        · exact .inr h
      · rintro (h | h)
        · exact .inl h
        · exact .inr (.inr h)
end
/-- The keys of a rising list, as sort would put the map's keys. -/
theorem LM.keys {l : List Pr} {M : ByteArray → Option Int} (hm : LM l M) (ks : List (List UInt8)) (hn : ks.Nodup) (h : ∀ k : ByteArray, k.data.toList ∈ ks ↔ (M k).isSome = true) : (ks.mergeSort fun x y => decide (x ≤ y)) = l.map fun p => p.1.data.toList := by
  refine rising_eq _ _ (rising_sort ks hn) ?_ (fun x => ?_)
  · rw [List.pairwise_map]; exact hm.up
  · rw [List.mem_mergeSort, List.mem_map]
    have hx : (⟨x.toArray⟩ : ByteArray).data.toList = x := rfl
    have h1 := h ⟨x.toArray⟩
    rw [hx] at h1
    rw [h1, Option.isSome_iff_exists]
    constructor
    · rintro ⟨v, hv⟩
      exact ⟨(⟨x.toArray⟩, v), (hm.iff _ v).1 hv, rfl⟩
    · rintro ⟨p, hp, e⟩
      refine ⟨p.2, (hm.iff _ _).2 ?_⟩
      have : p.1 = ⟨x.toArray⟩ := key_ext (by rw [e])
      rw [← this]
      exact hp
end Go.Proofs.YtgcdminjpdbchaaDoor
