/- A wheel's rows: an id more, one less, a row emptied. -/
import Derived.Test.YtknehglahdkafaaDoorWheelR
namespace Go.Proofs.YtknehglahdkafaaDoor
open Go.ChangeShapes Go.WideShapes Go.ChangeAt Go.RowKit
set_option linter.unusedVariables false
theorem cast_mem {x y : Nat} {l : List Nat} (r : (y : Int) = x) (h : y ∈ l) : x ∈ l := by
  have : y = x := by omega
  rw [← this]; exact h
section
variable {R : Nat → List Nat} {s : WS}
theorem Rep.congr {R' : Nat → List Nat} (h : Rep R s) (e : ∀ i, i < 64 → R i = R' i) : Rep R' s :=
  ⟨fun i hi => by rw [← e i hi]; exact h.en i hi, fun i hi => by rw [← e i hi]; exact h.mb i hi, fun i hi l1 x l2 q => h.pl i hi l1 x l2 (by rw [e i hi]; exact q), fun k hk => h.no k (fun i hi x hx => hk i hi x (by rw [← e i hi]; exact hx)),
    fun i j x hi hj h1 h2 => h.ap i j x hi hj (by rw [e i hi]; exact h1) (by rw [e j hj]; exact h2), fun i hi => by rw [← e i hi]; exact h.nd i hi, fun i hi x hx => h.le i hi x (by rw [e i hi]; exact hx), by rw [h.n]; exact tot_congr 64 (fun i hi => by rw [e i hi])⟩
/-- An id that is in no row is made the last one of one. -/
theorem Rep.link (h : Rep R s) {i x : Nat} (hi : i < 64) (hx : x ≤ 1048575) (hno : ∀ j, j < 64 → x ∉ R j) :
    Rep (upd R i (R i ++ [x])) (((s.setPl x ((i : Int), 0, 0)).join i (ltI (R i)) x).join i x (-1)) := by
  obtain ⟨s2, hs2⟩ : ∃ s2, s.setPl x ((i : Int), 0, 0) = s2 := ⟨_, rfl⟩
  have p2 : ∀ k : Int, s2.pl k = if k = x then some ((i : Int), 0, 0) else s.pl k := fun k => by rw [← hs2]; rfl
  have en2 : s2.en = s.en := by rw [← hs2]; rfl
  have mk2 : s2.mask = s.mask := by rw [← hs2]; rfl
  have hsx : s.pl (x : Int) = none := h.no x (fun j hj y hy r => hno j hj (cast_mem r hy))
  have n2 : s2.n = s.n + 1 := by rw [← hs2]; show (if (s.pl (x : Int)).isSome then s.n else s.n + 1) = _; rw [hsx]; rfl
  rw [hs2]
  clear hs2
  have hA : ltI (R i) = -1 ∨ ∃ (y : Nat) (c : List Nat), R i = c ++ [y] ∧ ltI (R i) = (y : Int) ∧ y ≠ x := by
    by_cases q : R i = []
    · exact .inl ((ltI_none _).2 q)
    · obtain ⟨y, hm, hy, e2⟩ := ltI_mem q
      exact .inr ⟨y, _, e2, hy, fun r => hno i hi (r ▸ hm)⟩
  have hlx : ltI (R i) ≠ (x : Int) := by
    rcases hA with r | ⟨y, c, _, hy, hne⟩
    · rw [r]; omega
    · rw [hy]; omega
  have hen := h.en i hi
  obtain ⟨s3, hs3⟩ : ∃ s3, s2.join i (ltI (R i)) x = s3 := ⟨_, rfl⟩
  have p3 : ∀ k : Int, s3.pl k = if k = x then some ((i : Int), ltI (R i), 0) else if ltI (R i) ≠ -1 ∧ k = ltI (R i) then some (((s.pl (ltI (R i))).getD (0, 0, 0)).1, ((s.pl (ltI (R i))).getD (0, 0, 0)).2.1, (x : Int)) else s.pl k := fun k => by
    rw [← hs3, join_pl _ _ _ _ (.inl hlx)]
    by_cases q : k = x
    · rw [if_pos ⟨by omega, q⟩, if_pos q, p2, if_pos rfl]; rfl
    · rw [if_neg (fun r => q r.2), if_neg q, p2, p2, if_neg hlx, if_neg q]
  have e3 : ∀ j, s3.en[j]? = if j = i then some (if ltI (R i) = -1 then (x : Int) else hdI (R i), ltI (R i)) else s.en[j]? := fun j => by
    rw [← hs3, join_en _ i _ _ (hdI (R i)) (ltI (R i)) (by rw [en2]; exact hen), en2, if_neg (show ¬ (x : Int) = -1 by omega)]
  have m3 : ∀ j, j < 64 → j ≠ i → s3.mask.testBit j = s.mask.testBit j := fun j hj hne => by
    rw [← hs3, join_mask _ i _ _ (hdI (R i)) (ltI (R i)) (by rw [en2]; exact hen) j hj, if_neg hne, mk2]
  have n3 : s3.n = s.n + 1 := by
    rw [← hs3, join_n_same, n2]
    · rcases hA with r | ⟨y, c, e, hy, hne⟩
      · exact .inl r
      · right
        rw [hy, p2, if_neg (by omega)]
        obtain ⟨a, b, hp⟩ := h.some_of hi (show y ∈ R i by rw [e]; simp)
        rw [hp]; rfl
    · right; rw [p2, if_pos rfl]; rfl
  rw [hs3]
  clear hs3
  have p4 : ∀ k : Int, (s3.join i x (-1)).pl k = if k = x then some ((i : Int), ltI (R i), -1) else if ltI (R i) ≠ -1 ∧ k = ltI (R i) then some (((s.pl (ltI (R i))).getD (0, 0, 0)).1, ((s.pl (ltI (R i))).getD (0, 0, 0)).2.1, (x : Int)) else s.pl k := fun k => by
    rw [join_pl _ _ _ _ (.inr rfl), if_neg (fun r => r.1 rfl), p3, p3, if_pos rfl]
    by_cases q : k = x
    · rw [if_pos ⟨by omega, q⟩, if_pos q]; rfl
    · rw [if_neg (fun r => q r.2), if_neg q]
      rw [if_neg q]
  have hfar : ∀ y : Nat, y ≠ x → (y : Int) ≠ ltI (R i) → (s3.join i x (-1)).pl (y : Int) = s.pl (y : Int) := fun y h1 h2 => by rw [p4, if_neg (by omega), if_neg (fun r => h2 r.2)]
  refine ⟨fun j hj => ?_, fun j hj => ?_, fun j hj m1 y m2 ey => ?_, fun k hk => ?_, fun a b y ha hb hya hyb => ?_, fun j hj => ?_, fun j hj y hy => ?_, ?_⟩
  · rw [join_en _ i _ _ _ _ ((e3 i).trans (if_pos rfl)), e3, if_neg (show ¬ (x : Int) = -1 by omega), if_pos rfl]
    by_cases q : j = i
    · subst q
      rw [if_pos rfl, upd_same, hdI_app, ltI_snoc]
      have a1 : (ltI (R j) = -1) = (R j = []) := propext (ltI_none _)
      simp only [a1]
      rfl
    · rw [if_neg q, if_neg q, upd_other R _ q]; exact h.en j hj
  · by_cases q : j = i
    · subst q
      rw [join_mask _ j _ _ _ _ ((e3 j).trans (if_pos rfl)) j hj, if_pos rfl, if_neg (show ¬ (x : Int) = -1 by omega), upd_same]
      have a1 : (ltI (R j) = -1) = (R j = []) := propext (ltI_none _)
      simp only [a1]
      by_cases q2 : R j = []
      · rw [if_pos q2, q2]; simp
      · have : hdI (R j) ≠ -1 := fun r => q2 ((hdI_none _).1 r)
        rw [if_neg q2]; simp [this]
    · rw [join_mask _ i _ _ _ _ ((e3 i).trans (if_pos rfl)) j hj, if_neg q, m3 j hj q, upd_other R _ q]; exact h.mb j hj
  · by_cases q : j = i
    · subst q
      rw [upd_same] at ey
      by_cases q2 : m2 = []
      · subst q2
        obtain ⟨e1, e2⟩ := List.append_inj' ey rfl
        injection e2 with e2
        subst e2
        subst e1
        rw [p4, if_pos rfl]; rfl
      · obtain ⟨z, hz, hz2, e2⟩ := ltI_mem q2
        rw [e2, ← List.cons_append, ← List.append_assoc] at ey
        obtain ⟨e1, e3'⟩ := List.append_inj' ey rfl
        injection e3' with e3'
        subst e3'
        have old := h.pl j hi m1 y m2.dropLast e1
        have hyx : y ≠ x := fun r => hno j hi (by rw [e1, ← r]; simp)
        by_cases q3 : m2.dropLast = []
        · have hl : ltI (R j) = (y : Int) := by rw [e1, q3, ltI_snoc]
          rw [p4, if_neg (by omega), if_pos ⟨by rw [hl]; omega, hl.symm⟩, hl, old, e2, q3]
          rfl
        · have n1 : (y : Int) ≠ ltI (R j) := fun r => by
            have g := ltI_app (m1 ++ [y]) m2.dropLast
            rw [if_neg q3] at g
            rw [e1, show m1 ++ y :: m2.dropLast = m1 ++ [y] ++ m2.dropLast by simp, g] at r
            obtain ⟨u, hu, hu2, _⟩ := ltI_mem q3
            rw [hu2] at r
            have : y = u := by omega
            subst this
            have nd := h.nd j hi
            rw [e1] at nd
            exact (List.nodup_cons.1 (List.nodup_append.1 nd).2.1).1 hu
          have e5 : hdI m2 = hdI m2.dropLast := by
            have g := hdI_app m2.dropLast [x]
            rw [← e2, if_neg q3] at g
            exact g
          rw [hfar y hyx n1, old, e5]
    · rw [upd_other R _ q] at ey
      have hy : y ∈ R j := by rw [ey]; simp
      rw [hfar y (fun r => hno j hj (r ▸ hy)) ?_]
      · exact h.pl j hj m1 y m2 ey
      · intro r
        rcases hA with r0 | ⟨z, c, e, hz, _⟩
        · rw [r0] at r; omega
        · rw [hz] at r
          have : y = z := by omega
          subst this
          exact q (h.ap j i y hj hi hy (by rw [e]; simp))
  · have hkx : k ≠ x := fun r => hk i hi x (by rw [upd_same]; simp) r.symm
    rw [p4, if_neg hkx, if_neg]
    · exact h.no k (fun j hj y hy => hk j hj y (by
        by_cases q : j = i
        · subst q; rw [upd_same]; simp [hy]
        · rw [upd_other R _ q]; exact hy))
    · rintro ⟨q1, q2⟩
      rcases hA with r0 | ⟨z, c, e, hz, _⟩
      · exact q1 r0
      · exact hk i hi z (by rw [upd_same, e]; simp) (by rw [q2, hz])
  · have hin : ∀ a, a < 64 → y ∈ upd R i (R i ++ [x]) a → y ∈ R a ∨ (y = x ∧ a = i) := fun a ha hm => by
      by_cases q : a = i
      · subst q
        rw [upd_same] at hm
        rcases List.mem_append.1 hm with q | q
        · exact .inl q
        · exact .inr ⟨by simpa using q, rfl⟩
      · rw [upd_other R _ q] at hm; exact .inl hm
    rcases hin a ha hya with q1 | ⟨q1, q1'⟩
    · rcases hin b hb hyb with q2 | ⟨q2, q2'⟩
      · exact h.ap a b y ha hb q1 q2
      · exact absurd (q2 ▸ q1) (hno a ha)
    · rcases hin b hb hyb with q2 | ⟨q2, q2'⟩
      · exact absurd (q1 ▸ q2) (hno b hb)
      · rw [q1', q2']
  · by_cases q : j = i
    · subst q
      rw [upd_same]
      exact List.nodup_append.2 ⟨h.nd j hi, by simp, fun a ha b hb r => hno j hi (by rw [← List.mem_singleton.1 hb, ← r]; exact ha)⟩
    · rw [upd_other R _ q]; exact h.nd j hj
  · by_cases q : j = i
    · subst q
      rw [upd_same] at hy
      rcases List.mem_append.1 hy with q | q
      · exact h.le j hj y q
      · rw [List.mem_singleton.1 q]; exact hx
    · rw [upd_other R _ q] at hy; exact h.le j hj y hy
  · have t := tot_upd R i (R i ++ [x]) 64 hi
    simp at t
    rw [join_n_same, n3, h.n]
    · omega
    · right; rw [p3, if_pos rfl]; rfl
    · exact .inl rfl
/-- All rows without an id. -/
def dropR (R : Nat → List Nat) (x : Nat) : Nat → List Nat := fun j => (R j).filter fun y => decide (y ≠ x)
theorem filter_not {l : List Nat} {x : Nat} (h : x ∉ l) : (l.filter fun y => decide (y ≠ x)) = l := List.filter_eq_self.2 (fun y hy => by simp; exact fun r => h (r ▸ hy))
theorem dropR_mem {R : Nat → List Nat} {x y j : Nat} : y ∈ dropR R x j ↔ y ∈ R j ∧ y ≠ x := by simp [dropR]
theorem Rep.drop (h : Rep R s) (x : Nat) : Rep (dropR R x) (s.drop x) := by
  by_cases hx : ∃ i, i < 64 ∧ x ∈ R i
  · obtain ⟨i, hi, hm⟩ := hx
    obtain ⟨l1, l2, e⟩ := mem_split hm
    refine (h.unlink hi e).congr (fun j hj => ?_)
    by_cases q : j = i
    · subst q
      have nd := h.nd j hi
      rw [e] at nd
      obtain ⟨nd1, nd2, nd3⟩ := List.nodup_append.1 nd
      have hx1 : x ∉ l1 := fun hm => nd3 x hm x (by simp) rfl
      have hx2 := (List.nodup_cons.1 nd2).1
      rw [upd_same]
      show l1 ++ l2 = (R j).filter _
      rw [e, List.filter_append, List.filter_cons_of_neg (by simp), filter_not hx1, filter_not hx2]
    · rw [upd_other R _ q]
      exact (filter_not (fun hm2 => q (h.ap j i x hj hi hm2 hm))).symm
  · have h0 : s.pl (x : Int) = none := h.no x (fun j hj y hy r => hx ⟨j, hj, cast_mem r hy⟩)
    have e : s.drop x = s := by unfold WS.drop; rw [h0]
    rw [e]
    exact h.congr (fun j hj => (filter_not (fun hm => hx ⟨j, hj, hm⟩)).symm)
theorem Rep.had (h : Rep R s) (x : Nat) : (s.pl (x : Int)).isSome = true ↔ ∃ i, i < 64 ∧ x ∈ R i := by
  constructor
  · intro hs
    by_cases hx : ∃ i, i < 64 ∧ x ∈ R i
    · exact hx
    · rw [h.no x (fun j hj y hy r => hx ⟨j, hj, cast_mem r hy⟩)] at hs
      cases hs
  · rintro ⟨i, hi, hm⟩
    obtain ⟨a, b, hp⟩ := h.some_of hi hm
    rw [hp]; rfl
def addR (R : Nat → List Nat) (i x : Nat) : Nat → List Nat := upd (dropR R x) i (dropR R x i ++ [x])
theorem Rep.add (h : Rep R s) {i x : Nat} (hi : i < 64) (hx : x ≤ 1048575) : Rep (addR R i x) (s.add i x) := by
  have h1 := h.drop x
  have h2 := h1.link hi hx (fun j hj hm => (dropR_mem.1 hm).2 rfl)
  have e : (((s.drop x).setPl x ((i : Int), 0, 0)).en.getD i (0, 0)).2 = ltI (dropR R x i) := by
    show ((s.drop x).en.getD i (0, 0)).2 = _
    rw [List.getD_eq_getElem?_getD, h1.en i hi]; rfl
  unfold WS.add
  simp only
  rw [e]
  exact h2
theorem Rep.add_en (h : Rep R s) {i x : Nat} (hi : i < 64) : I64 (((s.drop x).setPl x ((i : Int), 0, 0)).en.getD i (0, 0)).2 := by
  show I64 ((s.drop x).en.getD i (0, 0)).2
  rw [List.getD_eq_getElem?_getD, (h.drop x).en i hi]
  exact I64_lt _ ((h.drop x).le i hi)
def dropsR (R : Nat → List Nat) (l : List Nat) : Nat → List Nat := l.foldl dropR R
theorem dropsR_at (l : List Nat) : ∀ (R : Nat → List Nat) (j : Nat), dropsR R l j = (R j).filter fun y => decide (y ∉ l) := by
  induction l with
  | nil => intro R j; exact (List.filter_eq_self.2 (by simp)).symm
  | cons x l ih =>
    intro R j
    show dropsR (dropR R x) l j = _
    rw [ih]
    show ((R j).filter _).filter _ = _
    rw [List.filter_filter]
    refine List.filter_congr (fun y _ => ?_)
    simp [Bool.and_comm]
theorem Rep.drops (h : Rep R s) (l : List Nat) : Rep (dropsR R l) (s.drops l) := by
  induction l generalizing R s with
  | nil => exact h
  | cons x l ih => exact ih (h.drop x)
/-- A row is emptied. -/
theorem Rep.emptied (h : Rep R s) {i : Nat} (hi : i < 64) : Rep (upd R i []) (s.drops (R i)) := by
  refine (h.drops (R i)).congr (fun j hj => ?_)
  rw [dropsR_at]
  by_cases q : j = i
  · subst q
    rw [upd_same]
    simp
  · rw [upd_other R _ q]
    refine List.filter_eq_self.2 (fun y hy => ?_)
    simp
    exact fun hm => q (h.ap j i y hj hi hy hm)
theorem Rep.new : Rep (fun _ => []) (newW 64) := by
  have e : (newW 64).en = List.replicate 64 (-1, -1) := by simp [newW]
  refine ⟨fun i hi => ?_, fun i hi => ?_, fun i hi l1 x l2 q => ?_, fun k _ => rfl, (fun i j x _ _ hm => by simp at hm), (fun i _ => List.nodup_nil), (fun i _ x hx => by simp at hx), rfl⟩
  · rw [e, List.getElem?_replicate, if_pos hi]; rfl
  · show (0 : Nat).testBit i = _; simp
  · have := congrArg List.length q
    simp at this
end
end Go.Proofs.YtknehglahdkafaaDoor
