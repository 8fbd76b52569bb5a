/- A wheel's rows, as lists of ids: what its calls make of them. -/
import Derived.Test.YtknehglahdkafaaDoorWheel8
namespace Go.Proofs.YtknehglahdkafaaDoor
open Go.ChangeShapes Go.WideShapes Go.ChangeAt Go.RowKit
set_option linter.unusedVariables false

theorem hdI_cons (x : Nat) (l : List Nat) : hdI (x :: l) = x := rfl
theorem hdI_none (l : List Nat) : hdI l = -1 ↔ l = [] := by
  cases l with
  | nil => exact ⟨fun _ => rfl, fun _ => rfl⟩
  | cons a l => exact ⟨fun h => by rw [hdI_cons] at h; omega, fun h => by cases h⟩
theorem hdI_app (a b : List Nat) : hdI (a ++ b) = if a = [] then hdI b else hdI a := by
  cases a with
  | nil => simp
  | cons x a => simp [hdI_cons]
theorem ltI_nil : ltI [] = -1 := rfl
theorem ltI_snoc (l : List Nat) (x : Nat) : ltI (l ++ [x]) = x := by unfold ltI; rw [List.reverse_append]; rfl
theorem ltI_none (l : List Nat) : ltI l = -1 ↔ l = [] := by unfold ltI; rw [hdI_none, List.reverse_eq_nil_iff]
theorem ltI_app (a b : List Nat) : ltI (a ++ b) = if b = [] then ltI a else ltI b := by
  unfold ltI
  rw [List.reverse_append, hdI_app]
  simp only [List.reverse_eq_nil_iff]
theorem hdI_mem {l : List Nat} (h : l ≠ []) : ∃ x ∈ l, hdI l = (x : Int) ∧ l = x :: l.tail := by
  cases l with
  | nil => exact absurd rfl h
  | cons a l => exact ⟨a, by simp, rfl, rfl⟩
theorem ltI_mem {l : List Nat} (h : l ≠ []) : ∃ x ∈ l, ltI l = (x : Int) ∧ l = l.dropLast ++ [x] := by
  have e := (List.dropLast_concat_getLast h).symm
  refine ⟨l.getLast h, List.getLast_mem h, ?_, e⟩
  have := ltI_snoc l.dropLast (l.getLast h)
  rwa [← e] at this
theorem I64_hd (l : List Nat) (h : ∀ x ∈ l, x ≤ 1048575) : I64 (hdI l) := by
  by_cases e : l = []
  · rw [e, show hdI [] = -1 from rfl]; unfold I64; omega
  · obtain ⟨x, hx, hh, _⟩ := hdI_mem e
    have := h x hx
    rw [hh]; unfold I64; omega
theorem I64_lt (l : List Nat) (h : ∀ x ∈ l, x ≤ 1048575) : I64 (ltI l) := I64_hd _ (fun x hx => h x (by simpa using hx))

/-! What join does. -/
theorem mark_pl (s : WS) (i : Nat) : (s.mark i).pl = s.pl := by unfold WS.mark WS.setMask; rfl
theorem mark_en (s : WS) (i : Nat) : (s.mark i).en = s.en := by unfold WS.mark WS.setMask; rfl
theorem mark_mask (s : WS) (i : Nat) : (s.mark i).mask = mset s.mask i (bitOf (s.en.getD i (0, 0)).1) := by unfold WS.mark WS.setMask; rfl
theorem jA_mask (s : WS) (i : Nat) (a b : Int) : (s.jA i a b).mask = s.mask := by unfold WS.jA; split <;> rfl
theorem jB_mask (s : WS) (i : Nat) (a b : Int) : (s.jB i a b).mask = s.mask := by unfold WS.jB; split <;> rfl
theorem jA_pl (s : WS) (i : Nat) (a b k : Int) : (s.jA i a b).pl k = if a ≠ -1 ∧ k = a then some (((s.pl a).getD (0, 0, 0)).1, ((s.pl a).getD (0, 0, 0)).2.1, b) else s.pl k := by
  unfold WS.jA
  by_cases h : a = -1
  · rw [if_pos h, if_neg (fun q => q.1 h)]; rfl
  · rw [if_neg h]
    show (if k = a then _ else s.pl k) = _
    by_cases hk : k = a
    · rw [if_pos hk, if_pos ⟨h, hk⟩]
    · rw [if_neg hk, if_neg (fun q => hk q.2)]
theorem jB_pl (s : WS) (i : Nat) (a b k : Int) : (s.jB i a b).pl k = if b ≠ -1 ∧ k = b then some (((s.pl b).getD (0, 0, 0)).1, a, ((s.pl b).getD (0, 0, 0)).2.2) else s.pl k := by
  unfold WS.jB
  by_cases h : b = -1
  · rw [if_pos h, if_neg (fun q => q.1 h)]; rfl
  · rw [if_neg h]
    show (if k = b then _ else s.pl k) = _
    by_cases hk : k = b
    · rw [if_pos hk, if_pos ⟨h, hk⟩]
    · rw [if_neg hk, if_neg (fun q => hk q.2)]
theorem jA_en (s : WS) (i : Nat) (a b : Int) : (s.jA i a b).en = if a = -1 then s.en.set i (b, (s.en.getD i (0, 0)).2) else s.en := by
  unfold WS.jA
  by_cases h : a = -1
  · rw [if_pos h, if_pos h]; rfl
  · rw [if_neg h, if_neg h]; rfl
theorem jB_en (s : WS) (i : Nat) (a b : Int) : (s.jB i a b).en = if b = -1 then s.en.set i ((s.en.getD i (0, 0)).1, a) else s.en := by
  unfold WS.jB
  by_cases h : b = -1
  · rw [if_pos h, if_pos h]; rfl
  · rw [if_neg h, if_neg h]; rfl
/-- The ends behind a join. -/
theorem join_en (s : WS) (i : Nat) (a b : Int) (f l : Int) (hi : s.en[i]? = some (f, l)) (j : Nat) :
    (s.join i a b).en[j]? = if j = i then some (if a = -1 then b else f, if b = -1 then a else l) else s.en[j]? := by
  have hlt := (List.getElem?_eq_some_iff.1 hi).1
  have hd : s.en.getD i (0, 0) = (f, l) := by rw [List.getD_eq_getElem?_getD, hi]; rfl
  rw [WS.join, mark_en, jB_en]
  have e1 : (s.jA i a b).en = s.en.set i (if a = -1 then b else f, l) := by
    rw [jA_en]
    by_cases h : a = -1
    · rw [if_pos h, hd, if_pos h]
    · rw [if_neg h, if_neg h]
      apply List.ext_getElem?
      intro q
      rw [List.getElem?_set]
      by_cases e : i = q
      · subst e; rw [if_pos rfl, if_pos hlt, hi]
      · rw [if_neg e]
  have e2 : (s.en.set i (if a = -1 then b else f, l)).getD i (0, 0) = (if a = -1 then b else f, l) := by
    rw [List.getD_eq_getElem?_getD, List.getElem?_set_self hlt]; rfl
  rw [e1, e2]
  by_cases h : b = -1
  · rw [if_pos h, if_pos h, List.set_set, List.getElem?_set]
    by_cases e : j = i
    · subst e; rw [if_pos rfl, if_pos hlt, if_pos rfl]
    · rw [if_neg (fun x => e x.symm), if_neg e]
  · rw [if_neg h, if_neg h, List.getElem?_set]
    by_cases e : j = i
    · subst e; rw [if_pos rfl, if_pos hlt, if_pos rfl]
    · rw [if_neg (fun x => e x.symm), if_neg e]
/-- The places behind a join of two that are unlike. -/
theorem join_pl (s : WS) (i : Nat) (a b : Int) (hab : a ≠ b ∨ b = -1) (k : Int) :
    (s.join i a b).pl k = if b ≠ -1 ∧ k = b then some (((s.pl b).getD (0, 0, 0)).1, a, ((s.pl b).getD (0, 0, 0)).2.2) else
      if a ≠ -1 ∧ k = a then some (((s.pl a).getD (0, 0, 0)).1, ((s.pl a).getD (0, 0, 0)).2.1, b) else s.pl k := by
  rw [WS.join, mark_pl, jB_pl, jA_pl, jA_pl]
  by_cases h : b ≠ -1 ∧ k = b
  · rw [if_pos h, if_pos h, if_neg (fun q => by rcases hab with e | e; exact e q.2.symm; exact h.1 e)]
  · rw [if_neg h, if_neg h]
theorem join_mask (s : WS) (i : Nat) (a b : Int) (f l : Int) (hi : s.en[i]? = some (f, l)) (j : Nat) (hj : j < 64) :
    (s.join i a b).mask.testBit j = if j = i then decide ((if a = -1 then b else f) ≠ -1) else s.mask.testBit j := by
  have h1 := join_en s i a b f l hi i
  rw [if_pos rfl, WS.join, mark_en] at h1
  rw [WS.join, mark_mask, jB_mask, jA_mask, mset_bit _ _ _ _ hj, List.getD_eq_getElem?_getD, h1]
  by_cases e : j = i
  · rw [if_pos e, if_pos e]
    show (bitOf (if a = -1 then b else f)).testBit 0 = _
    unfold bitOf
    by_cases q : (if a = -1 then b else f) = -1
    · rw [if_pos q]; simp [q]
    · rw [if_neg q]; simp [q]
  · rw [if_neg e, if_neg e]
theorem setPl_some (s : WS) (k : Int) (p : Int × Int × Int) (h : (s.pl k).isSome = true) : (s.setPl k p).n = s.n := by show (if (s.pl k).isSome then s.n else s.n + 1) = _; rw [if_pos h]
theorem join_n_same (s : WS) (i : Nat) (a b : Int) (ha : a = -1 ∨ (s.pl a).isSome = true) (hb : b = -1 ∨ (s.pl b).isSome = true) : (s.join i a b).n = s.n := by
  rw [WS.join, mark_n]
  have h1 : (s.jA i a b).n = s.n := by
    unfold WS.jA
    by_cases e : a = -1
    · rw [if_pos e]; rfl
    · rw [if_neg e]; exact setPl_some _ _ _ (ha.resolve_left e)
  have h2 : ((s.jA i a b).jB i a b).n = (s.jA i a b).n := by
    unfold WS.jB
    by_cases e : b = -1
    · rw [if_pos e]; rfl
    · rw [if_neg e]
      refine setPl_some _ _ _ ?_
      rw [jA_pl]
      split
      · rfl
      · exact hb.resolve_left e
  rw [h2, h1]

/-! Rows. -/
def upd (R : Nat → List Nat) (i : Nat) (l : List Nat) : Nat → List Nat := fun j => if j = i then l else R j
theorem upd_same (R : Nat → List Nat) (i : Nat) (l : List Nat) : upd R i l i = l := by simp [upd]
theorem upd_other (R : Nat → List Nat) {i j : Nat} (l : List Nat) (h : j ≠ i) : upd R i l j = R j := by simp [upd, h]
def tot (R : Nat → List Nat) : Nat → Nat
  | 0 => 0
  | n + 1 => tot R n + (R n).length
theorem tot_congr {R R' : Nat → List Nat} (n : Nat) (h : ∀ i, i < n → (R i).length = (R' i).length) : tot R n = tot R' n := by
  induction n with
  | zero => rfl
  | succ n ih => rw [tot, tot, ih (fun i hi => h i (by omega)), h n (by omega)]
theorem tot_upd (R : Nat → List Nat) (i : Nat) (l : List Nat) (n : Nat) (h : i < n) : tot (upd R i l) n + (R i).length = tot R n + l.length := by
  induction n with
  | zero => omega
  | succ n ih =>
    rw [tot, tot]
    by_cases e : i = n
    · subst e
      rw [upd_same, tot_congr (R := upd R i l) (R' := R) i (fun j hj => by rw [upd_other R l (by omega)])]
      omega
    · rw [upd_other R l (fun x => e x.symm)]
      have := ih (by omega)
      omega
/-- These are the rows of a wheel. -/
structure Rep (R : Nat → List Nat) (s : WS) : Prop where
  en : ∀ i, i < 64 → s.en[i]? = some (hdI (R i), ltI (R i))
  mb : ∀ i, i < 64 → s.mask.testBit i = !(R i).isEmpty
  pl : ∀ i, i < 64 → ∀ (l1 : List Nat) (x : Nat) (l2 : List Nat), R i = l1 ++ x :: l2 → s.pl (x : Int) = some ((i : Int), ltI l1, hdI l2)
  no : ∀ k : Int, (∀ i, i < 64 → ∀ x ∈ R i, (x : Int) ≠ k) → s.pl k = none
  ap : ∀ i j x, i < 64 → j < 64 → x ∈ R i → x ∈ R j → i = j
  nd : ∀ i, i < 64 → (R i).Nodup
  le : ∀ i, i < 64 → ∀ x ∈ R i, x ≤ 1048575
  n : s.n = tot R 64
theorem mem_split {x : Nat} {l : List Nat} (h : x ∈ l) : ∃ a b, l = a ++ x :: b := List.append_of_mem h
section
variable {R : Nat → List Nat} {s : WS}
theorem Rep.some_of (h : Rep R s) {i x : Nat} (hi : i < 64) (hx : x ∈ R i) : ∃ a b, s.pl (x : Int) = some ((i : Int), a, b) := by
  obtain ⟨l1, l2, e⟩ := mem_split hx
  exact ⟨_, _, h.pl i hi l1 x l2 e⟩
theorem Rep.pl_cases (h : Rep R s) (k : Int) : s.pl k = none ∨ ∃ i, i < 64 ∧ ∃ (l1 : List Nat) (x : Nat) (l2 : List Nat), k = x ∧ R i = l1 ++ x :: l2 ∧ s.pl k = some ((i : Int), ltI l1, hdI l2) := by
  by_cases hk : ∃ i, i < 64 ∧ ∃ x ∈ R i, (x : Int) = k
  · obtain ⟨i, hi, x, hx, rfl⟩ := hk
    obtain ⟨l1, l2, e⟩ := mem_split hx
    exact .inr ⟨i, hi, l1, x, l2, rfl, e, h.pl i hi l1 x l2 e⟩
  · exact .inl (h.no k (fun i hi x hx e => hk ⟨i, hi, x, hx, e⟩))
theorem Rep.ok (h : Rep R s) (hl : s.en.length = 64) : s.Ok := by
  refine ⟨fun k p hp => ?_, fun p hp => ?_⟩
  · rcases h.pl_cases k with h0 | ⟨i, hi, l1, x, l2, rfl, e, hp2⟩
    · rw [h0] at hp; cases hp
    · rw [hp2] at hp
      injection hp with hp
      subst hp
      have hle := h.le i hi
      rw [e] at hle
      exact ⟨⟨by simp, by simp; omega⟩, I64_lt l1 (fun y hy => hle y (by simp [hy])), I64_hd l2 (fun y hy => hle y (by simp [hy]))⟩
  · obtain ⟨i, hi, e⟩ := List.getElem_of_mem hp
    have := h.en i (by omega)
    rw [List.getElem?_eq_getElem hi, e] at this
    injection this with this
    subst this
    exact ⟨I64_hd _ (h.le i (by omega)), I64_lt _ (h.le i (by omega))⟩
theorem Rep.chain (h : Rep R s) {i : Nat} (hi : i < 64) : Chain s i (R i) := by
  refine ⟨?_, h.mb i hi, fun j x hx => ?_, h.le i hi⟩
  · rw [List.getD_eq_getElem?_getD, h.en i hi]; rfl
  · have hl := (List.getElem?_eq_some_iff.1 hx).1
    have hx2 : (R i)[j] = x := (List.getElem?_eq_some_iff.1 hx).2
    have e : R i = (R i).take j ++ x :: (R i).drop (j + 1) := by
      conv => lhs; rw [← List.take_append_drop j (R i), List.drop_eq_getElem_cons hl, hx2]
    exact ⟨_, _, h.pl i hi _ x _ e⟩
theorem join_en_len (s : WS) (i : Nat) (a b : Int) : (s.join i a b).en.length = s.en.length := by
  rw [WS.join, mark_en, jB_en]
  have : (s.jA i a b).en.length = s.en.length := by rw [jA_en]; split <;> simp
  split
  · rw [List.length_set]; exact this
  · exact this
/-- An id is taken out of its row. -/
theorem Rep.unlink (h : Rep R s) {i x : Nat} {l1 l2 : List Nat} (hi : i < 64) (e : R i = l1 ++ x :: l2) : Rep (upd R i (l1 ++ l2)) (s.drop x) := by
  have hx := h.pl i hi l1 x l2 e
  have hd : s.drop x = (s.delPl x).join i (ltI l1) (hdI l2) := by unfold WS.drop; rw [hx]; rfl
  have nd := h.nd i hi
  rw [e] at nd
  obtain ⟨nd1, nd2, nd3⟩ := List.nodup_append.1 nd
  obtain ⟨nd4, nd5⟩ := List.nodup_cons.1 nd2
  have hx1 : x ∉ l1 := fun hm => nd3 x hm x (by simp) rfl
  have dpl : ∀ k : Int, (s.delPl x).pl k = if k = x then none else s.pl k := fun k => rfl
  have den : (s.delPl x).en = s.en := rfl
  have dmask : (s.delPl x).mask = s.mask := rfl
  have hen := h.en i hi
  -- who stands ahead, and behind
  have hA : ltI l1 = -1 ∨ ∃ (y : Nat) (c : List Nat), l1 = c ++ [y] ∧ ltI l1 = (y : Int) := by
    by_cases q : l1 = []
    · exact .inl ((ltI_none _).2 q)
    · obtain ⟨y, _, hy, e2⟩ := ltI_mem q
      exact .inr ⟨y, _, e2, hy⟩
  have hB : hdI l2 = -1 ∨ ∃ (z : Nat) (c : List Nat), l2 = z :: c ∧ hdI l2 = (z : Int) := by
    by_cases q : l2 = []
    · exact .inl ((hdI_none _).2 q)
    · obtain ⟨z, _, hz, e2⟩ := hdI_mem q
      exact .inr ⟨z, _, e2, hz⟩
  have hsome : ∀ y : Nat, y ∈ l1 ++ l2 → (s.pl (y : Int)).isSome = true ∧ (y : Int) ≠ x := fun y hy => by
    have hm : y ∈ R i := by rw [e]; rcases List.mem_append.1 hy with q | q <;> simp [q]
    obtain ⟨a, b, hp⟩ := h.some_of hi hm
    refine ⟨by rw [hp]; rfl, fun q => ?_⟩
    have : y = x := by omega
    subst this
    rcases List.mem_append.1 hy with q | q
    · exact hx1 q
    · exact nd4 q
  have hab : ltI l1 ≠ hdI l2 ∨ hdI l2 = -1 := by
    rcases hB with q | ⟨z, c, rfl, hz⟩
    · exact .inr q
    · refine .inl (fun q => ?_)
      rcases hA with r | ⟨y, c', rfl, hy⟩
      · rw [r] at q; rw [hz] at q; omega
      · rw [hy, hz] at q
        exact nd3 y (by simp) z (by simp) (by omega)
  have hnew : ∀ k : Int, (s.drop x).pl k = if hdI l2 ≠ -1 ∧ k = hdI l2 then some (((s.pl (hdI l2)).getD (0, 0, 0)).1, ltI l1, ((s.pl (hdI l2)).getD (0, 0, 0)).2.2) else
      if ltI l1 ≠ -1 ∧ k = ltI l1 then some (((s.pl (ltI l1)).getD (0, 0, 0)).1, ((s.pl (ltI l1)).getD (0, 0, 0)).2.1, hdI l2) else if k = x then none else s.pl k := by
    intro k
    rw [hd, join_pl _ _ _ _ hab]
    have f1 : hdI l2 ≠ -1 → (s.delPl x).pl (hdI l2) = s.pl (hdI l2) := fun q => by
      rcases hB with r | ⟨z, c, rfl, hz⟩
      · exact absurd r q
      · rw [dpl, hz, if_neg (hsome z (by simp)).2]
    have f2 : ltI l1 ≠ -1 → (s.delPl x).pl (ltI l1) = s.pl (ltI l1) := fun q => by
      rcases hA with r | ⟨y, c, rfl, hy⟩
      · exact absurd r q
      · rw [dpl, hy, if_neg (hsome y (by simp)).2]
    by_cases g1 : hdI l2 ≠ -1 ∧ k = hdI l2
    · rw [if_pos g1, if_pos g1, f1 g1.1]
    · rw [if_neg g1, if_neg g1]
      by_cases g2 : ltI l1 ≠ -1 ∧ k = ltI l1
      · rw [if_pos g2, if_pos g2, f2 g2.1]
      · rw [if_neg g2, if_neg g2, dpl]
  -- whoever is in a row, and is neither the one ahead nor the one behind, has what it had
  have hfar : ∀ y : Nat, (y : Int) ≠ hdI l2 → (y : Int) ≠ ltI l1 → y ≠ x → (s.drop x).pl (y : Int) = s.pl (y : Int) := fun y h1 h2 h3 => by
    rw [hnew, if_neg (fun q => h1 q.2), if_neg (fun q => h2 q.2), if_neg (by omega)]
  refine ⟨fun j hj => ?_, fun j hj => ?_, fun j hj m1 y m2 ey => ?_, fun k hk => ?_, fun a b y ha hb hya hyb => ?_, fun j hj => ?_, fun j hj y hy => ?_, ?_⟩
  · rw [hd, join_en _ i _ _ (hdI (R i)) (ltI (R i)) (by rw [den]; exact hen), den]
    by_cases q : j = i
    · subst q
      rw [if_pos rfl, upd_same, e]
      congr 1
      rw [hdI_app, hdI_app, ltI_app, ltI_app]
      have a1 : (ltI l1 = -1) = (l1 = []) := propext (ltI_none l1)
      have a2 : (hdI l2 = -1) = (l2 = []) := propext (hdI_none l2)
      simp only [a1, a2, if_neg (List.cons_ne_nil x l2)]
      refine Prod.ext ?_ ?_
      · by_cases q1 : l1 = []
        · simp [q1]
        · simp [q1]
      · by_cases q1 : l2 = []
        · simp [q1]
        · have : ltI (x :: l2) = ltI l2 := by have := ltI_app [x] l2; rw [if_neg q1] at this; exact this
          simp [q1, this]
    · rw [if_neg q, upd_other R _ q]; exact h.en j hj
  · rw [hd, join_mask _ i _ _ (hdI (R i)) (ltI (R i)) (by rw [den]; exact hen) j hj, dmask]
    by_cases q : j = i
    · subst q
      rw [if_pos rfl, upd_same]
      have a1 : (ltI l1 = -1) = (l1 = []) := propext (ltI_none l1)
      simp only [a1]
      by_cases q1 : l1 = []
      · subst q1
        rw [if_pos rfl, List.nil_append]
        by_cases q2 : l2 = []
        · rw [q2]; rfl
        · have : hdI l2 ≠ -1 := fun r => q2 ((hdI_none _).1 r)
          simp [this, q2]
      · rw [if_neg q1, e, hdI_app, if_neg q1]
        have : hdI l1 ≠ -1 := fun r => q1 ((hdI_none _).1 r)
        simp [this, q1]
    · rw [if_neg q, upd_other R _ q]; exact h.mb j hj
  · by_cases q : j = i
    · subst q
      rw [upd_same] at ey
      have hy : y ∈ l1 ++ l2 := by rw [ey]; simp
      rcases List.append_eq_append_iff.1 ey with ⟨c, e1, e2⟩ | ⟨c, e1, e2⟩
      · -- m1 = l1 ++ c, l2 = c ++ y :: m2
        have old := h.pl j hi (l1 ++ x :: c) y m2 (by rw [e, e2]; simp)
        cases c with
        | nil =>
          simp at e1 e2
          subst e1
          rw [hnew, e2, hdI_cons, if_pos ⟨by omega, rfl⟩, old]
          rfl
        | cons c0 c' =>
          have n1 : (y : Int) ≠ hdI l2 := fun r => by
            rw [e2] at r
            have hr : y = c0 := by rw [List.cons_append, hdI_cons] at r; omega
            rw [e2, List.cons_append] at nd5
            exact (List.nodup_cons.1 nd5).1 (by rw [← hr]; simp)
          have n2 : (y : Int) ≠ ltI l1 := fun r => by
            rcases hA with r0 | ⟨z, d, rfl, hz⟩
            · rw [r0] at r; omega
            · rw [hz] at r
              exact nd3 z (by simp) y (by rw [e2]; simp) (by omega)
          rw [hfar y n1 n2 (fun r => (hsome y hy).2 (by rw [r])), old, e1]
          have : ltI (l1 ++ x :: (c0 :: c')) = ltI (l1 ++ (c0 :: c')) := by
            have g := ltI_app (l1 ++ [x]) (c0 :: c')
            have g2 := ltI_app l1 (c0 :: c')
            rw [if_neg (List.cons_ne_nil _ _)] at g g2
            rw [g2, ← g]; simp
          rw [this]
      · -- l1 = m1 ++ c, y :: m2 = c ++ l2
        cases c with
        | nil =>
          simp at e1 e2
          subst e1
          have old := h.pl j hi (l1 ++ [x]) y m2 (by rw [e, ← e2]; simp)
          rw [hnew, ← e2, hdI_cons, if_pos ⟨by omega, rfl⟩, old]
          rfl
        | cons c0 c' =>
          rw [List.cons_append] at e2
          injection e2 with e3 e4
          subst e3
          have old := h.pl j hi m1 y (c' ++ x :: l2) (by rw [e, e1]; simp)
          have n1 : (y : Int) ≠ hdI l2 := fun r => by
            rcases hB with r0 | ⟨z, d, rfl, hz⟩
            · rw [r0] at r; omega
            · rw [hz] at r
              exact nd3 y (by rw [e1]; simp) z (by simp) (by omega)
          by_cases q2 : c' = []
          · subst q2
            simp at e4
            have hl : ltI l1 = (y : Int) := by rw [e1, ltI_snoc]
            rw [hnew, if_neg (fun q => n1 q.2), if_pos ⟨by rw [hl]; omega, hl.symm⟩, hl, old, e4]
            rfl
          · have n2 : (y : Int) ≠ ltI l1 := fun r => by
              rw [e1, ltI_app, if_neg (List.cons_ne_nil _ _)] at r
              have g := ltI_app [y] c'
              rw [if_neg q2] at g
              have : ltI (y :: c') = ltI c' := g
              rw [this] at r
              obtain ⟨z, hz, hz2, _⟩ := ltI_mem q2
              rw [hz2] at r
              have : y = z := by omega
              subst this
              rw [e1] at nd1
              have := (List.nodup_append.1 nd1).2.1
              exact (List.nodup_cons.1 this).1 hz
            rw [hfar y n1 n2 (fun r => (hsome y hy).2 (by rw [r])), old, e4, hdI_app, hdI_app, if_neg q2, if_neg q2]
    · rw [upd_other R _ q] at ey
      have hy : y ∈ R j := by rw [ey]; simp
      have hne : ∀ z ∈ R i, z ≠ y := fun z hz r => q (h.ap j i y hj hi hy (r ▸ hz))
      rw [hfar y ?_ ?_ ?_]
      · exact h.pl j hj m1 y m2 ey
      · intro r
        rcases hB with r0 | ⟨z, d, rfl, hz⟩
        · rw [r0] at r; omega
        · exact hne z (by rw [e]; simp) (by rw [hz] at r; omega)
      · intro r
        rcases hA with r0 | ⟨z, d, rfl, hz⟩
        · rw [r0] at r; omega
        · exact hne z (by rw [e]; simp) (by rw [hz] at r; omega)
      · intro r
        exact hne x (by rw [e]; simp) r.symm
  · have hk1 : ∀ y : Nat, y ∈ l1 ++ l2 → (y : Int) ≠ k := fun y hy => hk i hi y (by rw [upd_same]; exact hy)
    rw [hnew, if_neg, if_neg]
    · by_cases q : k = x
      · rw [if_pos q]
      · rw [if_neg q]
        refine h.no k (fun j hj y hy r => ?_)
        by_cases q2 : j = i
        · subst q2
          rw [e] at hy
          have : y ∈ l1 ++ l2 ∨ y = x := by
            rcases List.mem_append.1 hy with q | q
            · exact .inl (by simp [q])
            · rcases List.mem_cons.1 q with q | q
              · exact .inr q
              · exact .inl (by simp [q])
          rcases this with q3 | q3
          · exact hk1 y q3 r
          · exact q (by rw [← r, q3])
        · exact hk j hj y (by rw [upd_other R _ q2]; exact hy) r
    · rintro ⟨q1, q2⟩
      rcases hA with r | ⟨y, c, rfl, hy⟩
      · exact q1 r
      · exact hk1 y (by simp) (by rw [q2, hy])
    · rintro ⟨q1, q2⟩
      rcases hB with r | ⟨z, c, rfl, hz⟩
      · exact q1 r
      · exact hk1 z (by simp) (by rw [q2, hz])
  · have hin : ∀ a, y ∈ upd R i (l1 ++ l2) a → y ∈ R a := fun a hm => by
      by_cases q : a = i
      · subst q
        rw [upd_same] at hm
        rw [e]
        rcases List.mem_append.1 hm with q | q <;> simp [q]
      · rw [upd_other R _ q] at hm; exact hm
    exact h.ap a b y ha hb (hin a hya) (hin b hyb)
  · by_cases q : j = i
    · subst q
      rw [upd_same]
      exact List.nodup_append.2 ⟨nd1, nd5, fun a ha b hb => nd3 a ha b (by simp [hb])⟩
    · rw [upd_other R _ q]; exact h.nd j hj
  · by_cases q : j = i
    · subst q
      rw [upd_same] at hy
      refine h.le j hj y ?_
      rw [e]
      rcases List.mem_append.1 hy with q | q <;> simp [q]
    · rw [upd_other R _ q] at hy; exact h.le j hj y hy
  · have t := tot_upd R i (l1 ++ l2) 64 hi
    rw [e] at t
    simp at t
    have n1 : (s.drop x).n = (s.delPl x).n := by
      rw [hd]
      refine join_n_same _ _ _ _ ?_ ?_
      · rcases hA with r | ⟨y, c, rfl, hy⟩
        · exact .inl r
        · right; rw [hy, dpl, if_neg (hsome y (by simp)).2]; exact (hsome y (by simp)).1
      · rcases hB with r | ⟨z, c, rfl, hz⟩
        · exact .inl r
        · right; rw [hz, dpl, if_neg (hsome z (by simp)).2]; exact (hsome z (by simp)).1
    have n2 : (s.delPl x).n = s.n - 1 := by show (if (s.pl (x : Int)).isSome then s.n - 1 else s.n) = _; rw [hx]; rfl
    have := h.n
    rw [n1, n2]
    omega
end
end Go.Proofs.YtknehglahdkafaaDoor
