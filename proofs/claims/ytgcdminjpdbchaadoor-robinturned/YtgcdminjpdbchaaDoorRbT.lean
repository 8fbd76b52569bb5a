/- How far from home each slot's key is hangs on the keys alone: pure. -/
import Derived.Test.YtgcdminjpdbchaaDoorRbR
namespace Go.Proofs.YtgcdminjpdbchaaDoor
set_option linter.unusedVariables false

theorem sub_len {α : Type} [DecidableEq α] : ∀ (l l' : List α), l.Nodup → (∀ x ∈ l, x ∈ l') → l.length ≤ l'.length
  | [], _, _, _ => Nat.zero_le _
  | a :: l, l', h, hs => by
    rw [List.nodup_cons] at h
    have ha := hs a (by simp)
    have := sub_len l (l'.erase a) h.2 (fun x hx => (List.mem_erase_of_ne (fun e => h.1 (by rw [← e]; exact hx))).2 (hs x (by simp [hx])))
    rw [List.length_erase_of_mem ha] at this
    have hp : 0 < l'.length := List.length_pos_of_mem ha
    simp only [List.length_cons]
    omega
/-- How many places below n are so. -/
noncomputable def cntP (n : Nat) (P : Nat → Prop) : Nat := ((List.range n).filter fun p => @decide (P p) (Classical.propDecidable _)).length
theorem wr_add {n j a b : Nat} (hj : j < n) (h : a + b < n) : wr_ n (wr_ n (j + a) + b) = wr_ n (j + (a + b)) := by unfold wr_; split <;> split <;> split <;> omega
def ringL (n j m : Nat) : List Nat := (List.range m).map fun q => wr_ n (j + q)
theorem ringL_nodup {n j m : Nat} (hj : j < n) (hm : m ≤ n) : (ringL n j m).Nodup := by
  unfold ringL
  unfold List.Nodup
  rw [List.pairwise_map]
  refine (List.nodup_range (n := m)).imp_of_mem ?_
  intro a b ha hb hab e
  rw [List.mem_range] at ha hb
  exact hab (wr_inj hj (by omega) (by omega) e)
theorem cntP_ge {n j m : Nat} {P : Nat → Prop} (hj : j < n) (hm : m ≤ n) (h : ∀ q, q < m → P (wr_ n (j + q))) : m ≤ cntP n P := by
  have := sub_len (ringL n j m) ((List.range n).filter fun p => @decide (P p) (Classical.propDecidable _)) (ringL_nodup hj hm) (fun x hx => by
    obtain ⟨q, hq, rfl⟩ := List.mem_map.1 hx
    rw [List.mem_range] at hq
    rw [List.mem_filter, List.mem_range]
    exact ⟨wr_lt hj (by omega), by simpa using h q hq⟩)
  unfold cntP
  unfold ringL at this
  simpa using this
theorem cntP_le {n j m : Nat} {P : Nat → Prop} (h : ∀ p, p < n → P p → ∃ q, q < m ∧ p = wr_ n (j + q)) : cntP n P ≤ m := by
  have := sub_len ((List.range n).filter fun p => @decide (P p) (Classical.propDecidable _)) (ringL n j m) (List.Pairwise.filter _ (List.nodup_range (n := n))) (fun x hx => by
    rw [List.mem_filter, List.mem_range] at hx
    obtain ⟨q, hq, rfl⟩ := h x hx.1 (by simpa using hx.2)
    exact List.mem_map.2 ⟨q, List.mem_range.2 hq, rfl⟩)
  unfold cntP
  unfold ringL at this
  simpa using this
/-- How many keys have their home in a stretch of the ring. -/
noncomputable def homes (hm : ByteArray → Nat) (n : Nat) (s : List RS) (j L : Nat) : Nat := cntP n fun p => (atS s p).u = true ∧ ∃ q, q < L ∧ hm (atS s p).k = wr_ n (j + q)
section
variable {hm : ByteArray → Nat} {n : Nat} {s : List RS}
theorem one_used {z : Nat} (hz : z < n) (hu : (atS s z).u = true) : ∀ q, q ≤ 0 → (atS s (wr_ n (z + q))).u = true := by
  intro q hq
  obtain rfl : q = 0 := by omega
  rw [wr_zero hz]; exact hu
/-- From a slot back to one whose key is at home. -/
theorem WellT.back (h : WellT hm n s) : ∀ (m0 i z : Nat), z < n → m0 < n → wr_ n (z + m0) = i → (atS s z).d = 0 → (atS s i).u = true → ∃ j m, j < n ∧ m ≤ m0 ∧ wr_ n (j + m) = i ∧ (atS s j).d = 0 ∧ (∀ q, q ≤ m → (atS s (wr_ n (j + q))).u = true) ∧ (∀ q, q < m → (atS s (wr_ n (j + (q + 1)))).d ≤ (atS s (wr_ n (j + q))).d + 1)
  | 0, i, z, hz, hm0, he, hd, hu => by
    rw [wr_zero hz] at he
    subst he
    exact ⟨z, 0, hz, Nat.le_refl _, wr_zero hz, hd, one_used hz hu, fun q hq => absurd hq (by omega)⟩
  | m0 + 1, i, z, hz, hm0, he, hd, hu => by
    have hi : i < n := by rw [← he]; exact wr_lt hz (by omega)
    by_cases h0 : (atS s i).d = 0
    · exact ⟨i, 0, hi, by omega, wr_zero hi, h0, one_used hi hu, fun q hq => absurd hq (by omega)⟩
    · have hn : nx n (wr_ n (z + m0)) = i := by rw [nx_wr hz (by omega)]; exact he
      have hl : wr_ n (z + m0) < n := wr_lt hz (by omega)
      have ha := h.ahead (wr_ n (z + m0)) hl (by rw [hn]; exact hu) (by rw [hn]; omega)
      rw [hn] at ha
      obtain ⟨j, m, q1, q2, q3, q4, q5, q6⟩ := WellT.back h m0 (wr_ n (z + m0)) z hz (by omega) rfl hd ha.1
      have q7 : wr_ n (j + (m + 1)) = i := by rw [← nx_wr q1 (by omega), q3, hn]
      refine ⟨j, m + 1, q1, by omega, q7, q4, fun q hq => ?_, fun q hq => ?_⟩
      · by_cases e : q = m + 1
        · rw [e, q7]; exact hu
        · exact q5 q (by omega)
      · by_cases e : q = m
        · rw [e, q7, q3]; exact ha.2
        · exact q6 q (by omega)
/-- A slot's key is so far from home just if that many keys have their homes so. -/
def Crowd (N : Nat → Nat → Nat) (n i e : Nat) : Prop := ∃ j L, j < n ∧ 1 ≤ L ∧ L + e ≤ n ∧ wr_ n (j + (L + e - 1)) = i ∧ L + e ≤ N j L
theorem WellT.crowd (h : WellT hm n s) {i e : Nat} (hi : i < n) : ((atS s i).u = true ∧ e ≤ (atS s i).d) ↔ Crowd (homes hm n s) n i e := by
  constructor
  · rintro ⟨hu, hd⟩
    obtain ⟨z, hz, hz0⟩ := h.one
    obtain ⟨m0, hm0, hzi⟩ := wr_onto hz hi
    obtain ⟨j, m, q1, q2, q3, q4, q5, q6⟩ := h.back m0 i z hz hm0 hzi hz0 hu
    have hle : ∀ q, q ≤ m → (atS s (wr_ n (j + q))).d ≤ q := by
      intro q
      induction q with
      | zero => intro _; rw [wr_zero q1, q4]; exact Nat.le_refl _
      | succ q ih =>
        intro hq
        have := q6 q (by omega)
        have := ih (by omega)
        omega
    have hup : ∀ r q, q + r = m → q + (atS s i).d ≤ m + (atS s (wr_ n (j + q))).d := by
      intro r
      induction r with
      | zero => intro q hq; rw [show q = m by omega, q3]; omega
      | succ r ih =>
        intro q hq
        have := q6 q (by omega)
        have := ih (q + 1) (by omega)
        omega
    have hdm : (atS s i).d ≤ m := by have := hle m (Nat.le_refl _); rw [q3] at this; exact this
    refine ⟨j, m + 1 - e, q1, by omega, by omega, by rw [show m + 1 - e + e - 1 = m by omega]; exact q3, ?_⟩
    rw [show m + 1 - e + e = m + 1 by omega]
    refine cntP_ge q1 (by omega) (fun q hq => ⟨q5 q (by omega), q - (atS s (wr_ n (j + q))).d, ?_, ?_⟩)
    · have := hup (m - q) q (by omega)
      have := hle q (by omega)
      omega
    · have hq2 := hle q (by omega)
      have hp : wr_ n (j + q) < n := wr_lt q1 (by omega)
      obtain ⟨a1, a2⟩ := h.home _ hp (q5 q (by omega))
      have e1 : wr_ n (wr_ n (j + (q - (atS s (wr_ n (j + q))).d)) + (atS s (wr_ n (j + q))).d) = wr_ n (j + q) := by
        rw [wr_add q1 (by omega)]; congr 1; omega
      have hl := h.hl (atS s (wr_ n (j + q))).k
      have hl2 : wr_ n (j + (q - (atS s (wr_ n (j + q))).d)) < n := wr_lt q1 (by omega)
      have e2 := a1.trans e1.symm
      generalize hm (atS s (wr_ n (j + q))).k = x at e2 hl ⊢
      generalize wr_ n (j + (q - (atS s (wr_ n (j + q))).d)) = y at e2 hl2 ⊢
      generalize (atS s (wr_ n (j + q))).d = d at e2 a2
      unfold wr_ at e2
      split at e2 <;> split at e2 <;> omega
  · rintro ⟨j, L, q1, q2, q3, q4, q5⟩
    refine Classical.byContradiction fun hno => ?_
    have : homes hm n s j L ≤ L + e - 1 := by
      refine cntP_le (j := j) (fun p hp hP => ?_)
      obtain ⟨hu, q, hq, hh⟩ := hP
      obtain ⟨a1, a2⟩ := h.home p hp hu
      by_cases hr : L + e - 1 - q ≤ (atS s p).d
      · have hc := h.chain hp hu (L + e - 1 - q) hr
        rw [hh, wr_add q1 (by omega), show q + (L + e - 1 - q) = L + e - 1 by omega, q4] at hc
        exact absurd ⟨hc.1, by omega⟩ hno
      · refine ⟨q + (atS s p).d, by omega, ?_⟩
        rw [← wr_add q1 (by omega), ← hh, a1]
    omega
end
/-- Tables of the same keys use the same slots, by keys as far from home. -/
theorem same_slots {hm : ByteArray → Nat} {n : Nat} {s t : List RS} (hs : WellT hm n s) (ht : WellT hm n t) (hN : ∀ j L, homes hm n s j L = homes hm n t j L) {i : Nat} (hi : i < n) : (atS s i).u = (atS t i).u ∧ (atS s i).d = (atS t i).d := by
  have key : ∀ e, ((atS s i).u = true ∧ e ≤ (atS s i).d) ↔ ((atS t i).u = true ∧ e ≤ (atS t i).d) := fun e => by
    rw [hs.crowd hi, ht.crowd hi]
    have : homes hm n s = homes hm n t := by funext j L; exact hN j L
    rw [this]
  cases h1 : (atS s i).u with
  | true =>
    have h2 := (key 0).1 ⟨h1, Nat.zero_le _⟩
    have h3 := (key (atS s i).d).1 ⟨h1, Nat.le_refl _⟩
    have h4 := (key (atS t i).d).2 ⟨h2.1, Nat.le_refl _⟩
    exact ⟨h2.1.symm, Nat.le_antisymm h3.2 h4.2⟩
  | false =>
    cases h2 : (atS t i).u with
    | true =>
      have := (key 0).2 ⟨h2, Nat.zero_le _⟩
      rw [h1] at this
      exact absurd this.1 (by decide)
    | false =>
      rw [hs.zero i hi h1, ht.zero i hi h2]
      exact ⟨rfl, rfl⟩
open Classical in
theorem cntP_inj {n : Nat} {P Q : Nat → Prop} (R : Nat → Nat → Prop) (h1 : ∀ p, p < n → P p → ∃ p', p' < n ∧ Q p' ∧ R p p') (h2 : ∀ p q r, p < n → q < n → P p → P q → R p r → R q r → p = q) : cntP n P ≤ cntP n Q := by
  let f : Nat → Nat := fun p => if h : p < n ∧ P p then Classical.choose (h1 p h.1 h.2) else 0
  have hf : ∀ p, p < n → P p → f p < n ∧ Q (f p) ∧ R p (f p) := fun p hp hP => by
    have e : f p = Classical.choose (h1 p hp hP) := dif_pos ⟨hp, hP⟩
    rw [e]
    exact Classical.choose_spec (h1 p hp hP)
  have := sub_len (((List.range n).filter fun p => @decide (P p) (Classical.propDecidable _)).map f) ((List.range n).filter fun p => @decide (Q p) (Classical.propDecidable _)) (by
    unfold List.Nodup
    rw [List.pairwise_map]
    refine (List.Pairwise.filter _ (List.nodup_range (n := n))).imp_of_mem ?_
    intro a b ha hb hab e
    rw [List.mem_filter, List.mem_range] at ha hb
    have a1 := hf a ha.1 (by simpa using ha.2)
    have b1 := hf b hb.1 (by simpa using hb.2)
    rw [e] at a1
    exact hab (h2 a b (f b) ha.1 hb.1 (by simpa using ha.2) (by simpa using hb.2) a1.2.2 b1.2.2)) (fun x hx => by
    obtain ⟨p, hp, rfl⟩ := List.mem_map.1 hx
    rw [List.mem_filter, List.mem_range] at hp
    have := hf p hp.1 (by simpa using hp.2)
    rw [List.mem_filter, List.mem_range]
    exact ⟨this.1, by simpa using this.2.1⟩)
  rw [List.length_map] at this
  exact this
theorem homes_le {hm : ByteArray → Nat} {n : Nat} {s t : List RS} (hs : WellT hm n s) (h : ∀ k v, HasK n s k v → ∃ v', HasK n t k v') (j L : Nat) : homes hm n s j L ≤ homes hm n t j L := by
  refine cntP_inj (fun p p' => (atS s p).k = (atS t p').k) (fun p hp hP => ?_) (fun p q r hp hq hP hQ h1 h2 => hs.nd p q hp hq hP.1 hQ.1 (h1.trans h2.symm))
  obtain ⟨hu, hx⟩ := hP
  obtain ⟨v', p', a1, a2, a3, _⟩ := h _ _ ⟨p, hp, hu, rfl, rfl⟩
  exact ⟨p', a1, ⟨a2, by rw [a3]; exact hx⟩, a3.symm⟩
theorem same_tables {hm : ByteArray → Nat} {n : Nat} {s t : List RS} (hs : WellT hm n s) (ht : WellT hm n t) (h1 : ∀ k v, HasK n s k v → ∃ v', HasK n t k v') (h2 : ∀ k v, HasK n t k v → ∃ v', HasK n s k v') {i : Nat} (hi : i < n) : (atS s i).u = (atS t i).u ∧ (atS s i).d = (atS t i).d :=
  same_slots hs ht (fun j L => Nat.le_antisymm (homes_le hs h1 j L) (homes_le ht h2 j L)) hi
end Go.Proofs.YtgcdminjpdbchaaDoor
