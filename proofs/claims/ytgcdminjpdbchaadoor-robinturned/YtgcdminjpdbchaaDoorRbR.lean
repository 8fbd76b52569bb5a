/- A table in which whoever is further from home goes first: what finding, putting in and taking out make of its slots. -/
import Derived.Test.YtgcdminjpdbchaaDoorMem
namespace Go.Proofs.YtgcdminjpdbchaaDoor
set_option linter.unusedVariables false

/-- A slot. -/
structure RS where
  u : Bool
  k : ByteArray
  v : Int
  d : Nat
def zS : RS := ⟨false, ByteArray.empty, 0, 0⟩
def atS (s : List RS) (i : Nat) : RS := s.getD i zS
theorem atS_set {s : List RS} {i : Nat} (x : RS) (h : i < s.length) (j : Nat) : atS (s.set i x) j = if j = i then x else atS s j := by
  unfold atS
  rw [List.getD_eq_getElem?_getD, List.getD_eq_getElem?_getD, List.getElem?_set]
  by_cases e : i = j
  · subst e; simp [h]
  · rw [if_neg e, if_neg (fun q => e q.symm)]
theorem atS_get {s : List RS} {i : Nat} (h : i < s.length) : s[i]? = some (atS s i) := by
  unfold atS
  rw [List.getD_eq_getElem?_getD, List.getElem?_eq_getElem h]; rfl
/-- The slot behind one, in a ring of n. -/
def nx (n i : Nat) : Nat := if i + 1 = n then 0 else i + 1
/-- A place in a ring of n, reckoned from another one on. -/
def wr_ (n x : Nat) : Nat := if x < n then x else x - n
theorem nx_lt {n i : Nat} (h : i < n) : nx n i < n := by unfold nx; split <;> omega
theorem wr_lt {n h e : Nat} (hh : h < n) (he : e ≤ n) : wr_ n (h + e) < n := by unfold wr_; split <;> omega
theorem nx_wr {n h e : Nat} (hh : h < n) (he : e < n) : nx n (wr_ n (h + e)) = wr_ n (h + (e + 1)) := by unfold nx wr_; split <;> split <;> split <;> omega
theorem wr_zero {n h : Nat} (hh : h < n) : wr_ n (h + 0) = h := by unfold wr_; split <;> omega
theorem wr_inj {n h a b : Nat} (hh : h < n) (ha : a < n) (hb : b < n) (e : wr_ n (h + a) = wr_ n (h + b)) : a = b := by unfold wr_ at e; split at e <;> split at e <;> omega
theorem wr_onto {n h f : Nat} (hh : h < n) (hf : f < n) : ∃ e, e < n ∧ wr_ n (h + e) = f := by
  by_cases q : h ≤ f
  · exact ⟨f - h, by omega, by unfold wr_; split <;> omega⟩
  · exact ⟨f + n - h, by omega, by unfold wr_; split <;> omega⟩
theorem nx_inj {n a b : Nat} (ha : a < n) (hb : b < n) (e : nx n a = nx n b) : a = b := by unfold nx at e; split at e <;> split at e <;> omega
theorem nx_ne {n a : Nat} (h2 : 2 ≤ n) : nx n a ≠ a := by unfold nx; split <;> omega
/-- How far it is from a to f. -/
def far (n a f : Nat) : Nat := if a ≤ f then f - a else f + n - a
theorem far_nx {n a f : Nat} (ha : a < n) (hf : f < n) (hne : a ≠ f) : far n (nx n a) f < far n a f := by unfold far nx; split <;> split <;> split <;> omega
theorem far_lt {n a f : Nat} (ha : a < n) (hf : f < n) : far n a f < n := by unfold far; split <;> omega
def cnt (s : List RS) : Nat := (s.filter fun x => x.u).length
/-- What is so of a table at all times: all but that keys are there once. -/
structure Half (hm : ByteArray → Nat) (n : Nat) (s : List RS) : Prop where
  len : s.length = n
  n2 : 2 ≤ n
  hl : ∀ k, hm k < n
  zero : ∀ i, i < n → (atS s i).u = false → atS s i = zS
  home : ∀ i, i < n → (atS s i).u = true → wr_ n (hm (atS s i).k + (atS s i).d) = i ∧ (atS s i).d < n
  ahead : ∀ i, i < n → (atS s (nx n i)).u = true → 0 < (atS s (nx n i)).d → (atS s i).u = true ∧ (atS s (nx n i)).d ≤ (atS s i).d + 1
/-- A table that is well. -/
structure WellT (hm : ByteArray → Nat) (n : Nat) (s : List RS) : Prop extends Half hm n s where
  nd : ∀ i j, i < n → j < n → (atS s i).u = true → (atS s j).u = true → (atS s i).k = (atS s j).k → i = j
  one : ∃ z, z < n ∧ (atS s z).d = 0
/-- A key has a value. -/
def HasK (n : Nat) (s : List RS) (k : ByteArray) (v : Int) : Prop := ∃ i, i < n ∧ (atS s i).u = true ∧ (atS s i).k = k ∧ (atS s i).v = v
section
variable {hm : ByteArray → Nat} {n : Nat} {s : List RS}
/-- On the way from a key's home to it all slots are used, by those who are as far from home. -/
theorem Half.chain (h : Half hm n s) {i : Nat} (hi : i < n) (hu : (atS s i).u = true) : ∀ e, e ≤ (atS s i).d → (atS s (wr_ n (hm (atS s i).k + e))).u = true ∧ e ≤ (atS s (wr_ n (hm (atS s i).k + e))).d := by
  obtain ⟨h1, h2⟩ := h.home i hi hu
  have hh := h.hl (atS s i).k
  have key : ∀ m, m ≤ (atS s i).d → (atS s (wr_ n (hm (atS s i).k + ((atS s i).d - m)))).u = true ∧ (atS s i).d - m ≤ (atS s (wr_ n (hm (atS s i).k + ((atS s i).d - m)))).d := by
    intro m
    induction m with
    | zero => intro _; rw [Nat.sub_zero, h1]; exact ⟨hu, Nat.le_refl _⟩
    | succ m ih =>
      intro hm'
      obtain ⟨a1, a2⟩ := ih (by omega)
      have e1 : (atS s i).d - m = ((atS s i).d - (m + 1)) + 1 := by omega
      rw [e1, ← nx_wr hh (by omega)] at a1 a2
      obtain ⟨b1, b2⟩ := h.ahead _ (wr_lt hh (by omega)) a1 (by omega)
      exact ⟨b1, by omega⟩
  intro e he
  have := key ((atS s i).d - e) (by omega)
  rwa [show (atS s i).d - ((atS s i).d - e) = e by omega] at this
/-- Nothing on the way to e was the key. -/
def NotYet (hm : ByteArray → Nat) (n : Nat) (s : List RS) (key : ByteArray) (e : Nat) : Prop := ∀ e', e' < e → (atS s (wr_ n (hm key + e'))).u = true ∧ e' ≤ (atS s (wr_ n (hm key + e'))).d ∧ (atS s (wr_ n (hm key + e'))).k ≠ key
theorem Half.stop (h : Half hm n s) {key : ByteArray} {e : Nat} (hn : NotYet hm n s key e) (hs : (atS s (wr_ n (hm key + e))).u = false ∨ (atS s (wr_ n (hm key + e))).d < e) : ∀ i, i < n → (atS s i).u = true → (atS s i).k ≠ key := by
  intro i hi hu hk
  have hc := h.chain hi hu
  obtain ⟨h1, h2⟩ := h.home i hi hu
  rw [hk] at hc h1
  by_cases q : e ≤ (atS s i).d
  · obtain ⟨c1, c2⟩ := hc e q
    rcases hs with r | r
    · rw [c1] at r; cases r
    · omega
  · obtain ⟨_, _, c3⟩ := hn (atS s i).d (by omega)
    rw [h1] at c3
    exact c3 hk
theorem Half.stop_n (h : Half hm n s) {key : ByteArray} (hn : NotYet hm n s key n) : ∀ i, i < n → (atS s i).u = true → (atS s i).k ≠ key := by
  intro i hi hu hk
  obtain ⟨h1, h2⟩ := h.home i hi hu
  rw [hk] at h1
  obtain ⟨_, _, c3⟩ := hn (atS s i).d h2
  rw [h1] at c3
  exact c3 hk
end
theorem cnt_set {s : List RS} {i : Nat} (x : RS) (h : i < s.length) : cnt (s.set i x) + (if (atS s i).u then 1 else 0) = cnt s + (if x.u then 1 else 0) := by
  induction s generalizing i with
  | nil => simp at h
  | cons y s ih =>
    cases i with
    | zero =>
      unfold cnt atS
      simp only [List.set_cons_zero, List.getD_cons_zero, List.filter_cons]
      cases y.u <;> cases x.u <;> simp <;> omega
    | succ i =>
      have := ih (i := i) (by simpa using h)
      unfold cnt atS at *
      simp only [List.set_cons_succ, List.getD_cons_succ, List.filter_cons]
      cases y.u <;> simp at this ⊢ <;> omega
/-- A key that is there gets another value. -/
theorem WellT.value {hm : ByteArray → Nat} {n : Nat} {s : List RS} (h : WellT hm n s) {i : Nat} (hi : i < n) (hu : (atS s i).u = true) (v : Int) : WellT hm n (s.set i { atS s i with v := v }) := by
  have e := fun j => atS_set (s := s) { atS s i with v := v } (show i < s.length by rw [h.len]; exact hi) j
  have eu : ∀ j, (atS (s.set i { atS s i with v := v }) j).u = (atS s j).u := fun j => by rw [e]; split <;> simp_all
  have ek : ∀ j, (atS (s.set i { atS s i with v := v }) j).k = (atS s j).k := fun j => by rw [e]; split <;> simp_all
  have ed : ∀ j, (atS (s.set i { atS s i with v := v }) j).d = (atS s j).d := fun j => by rw [e]; split <;> simp_all
  refine ⟨⟨by rw [List.length_set, h.len], h.n2, h.hl, fun j hj q => ?_, fun j hj q => ?_, fun j hj q1 q2 => ?_⟩, fun a b ha hb q1 q2 q3 => ?_, ?_⟩
  · rw [eu] at q
    rw [e, if_neg (fun r => by subst r; rw [hu] at q; cases q)]
    exact h.zero j hj q
  · rw [eu] at q
    rw [ek, ed]; exact h.home j hj q
  · rw [eu] at q1 ⊢
    rw [ed] at q2 ⊢
    rw [ed]
    exact h.ahead j hj q1 q2
  · rw [eu] at q1 q2
    rw [ek, ek] at q3
    exact h.nd a b ha hb q1 q2 q3
  · obtain ⟨z, h1, h2⟩ := h.one
    exact ⟨z, h1, by rw [ed]; exact h2⟩
/-! Putting in. -/
/-- A slot's content is carried, from its key's home on; f is a slot that is not used. -/
structure Ins (hm : ByteArray → Nat) (n : Nat) (s0 : List RS) (c0 : RS) (f : Nat) (s : List RS) (c : RS) (a : Nat) : Prop where
  w : WellT hm n s
  cu : c.u = true
  ca : a = wr_ n (hm c.k + c.d)
  cd : c.d < n
  ch : ∀ e, e < c.d → (atS s (wr_ n (hm c.k + e))).u = true ∧ e ≤ (atS s (wr_ n (hm c.k + e))).d
  no : ∀ i, i < n → (atS s i).u = true → (atS s i).k ≠ c.k
  fn : f < n
  fu : (atS s f).u = false
  mem : ∀ k v, (HasK n s k v ∨ (k = c.k ∧ v = c.v)) ↔ (HasK n s0 k v ∨ (k = c0.k ∧ v = c0.v))
  ct : cnt s = cnt s0
section
variable {hm : ByteArray → Nat} {n f a : Nat} {s0 s : List RS} {c0 c : RS}
theorem Ins.start (h : WellT hm n s) (hu : c.u = true) (hd : c.d = 0) (hno : ∀ i, i < n → (atS s i).u = true → (atS s i).k ≠ c.k) (hf : f < n) (hfu : (atS s f).u = false) : Ins hm n s c f s c (hm c.k) :=
  ⟨h, hu, by rw [hd, wr_zero (h.hl _)], by rw [hd]; have := h.n2; omega, fun e he => by rw [hd] at he; omega, hno, hf, hfu, fun _ _ => Iff.rfl, rfl⟩
theorem Ins.lt (h : Ins hm n s0 c0 f s c a) : a < n := by rw [h.ca]; exact wr_lt (h.w.hl _) (Nat.le_of_lt h.cd)
theorem Ins.room (h : Ins hm n s0 c0 f s c a) (hu : (atS s a).u = true) (hd : c.d ≤ (atS s a).d) : c.d + 1 < n := by
  rcases Nat.lt_or_ge (c.d + 1) n with q | q
  · exact q
  · obtain ⟨e, he, hef⟩ := wr_onto (h.w.hl c.k) h.fn
    have hu2 : (atS s (wr_ n (hm c.k + e))).u = true := by
      by_cases r : e < c.d
      · exact (h.ch e r).1
      · have : e = c.d := by have := h.cd; omega
        rw [this, ← h.ca]; exact hu
    rw [hef, h.fu] at hu2
    cases hu2
/-- Whoever stands there is as far from home: on. -/
theorem Ins.on (h : Ins hm n s0 c0 f s c a) (hu : (atS s a).u = true) (hd : c.d ≤ (atS s a).d) : Ins hm n s0 c0 f s { c with d := c.d + 1 } (nx n a) := by
  have hr := h.room hu hd
  refine ⟨h.w, h.cu, ?_, hr, fun e he => ?_, h.no, h.fn, h.fu, h.mem, h.ct⟩
  · show nx n a = wr_ n (hm c.k + (c.d + 1))
    rw [h.ca, nx_wr (h.w.hl _) h.cd]
  · by_cases r : e < c.d
    · exact h.ch e r
    · have : e = c.d := by have : e < c.d + 1 := he; omega
      subst this
      rw [← h.ca]
      exact ⟨hu, hd⟩
/-- Whoever stands there is nearer to home: they change. -/
theorem Ins.swap (h : Ins hm n s0 c0 f s c a) (hu : (atS s a).u = true) (hd : (atS s a).d < c.d) : Ins hm n s0 c0 f (s.set a c) (atS s a) a := by
  have ha := h.lt
  have e := fun j => atS_set (s := s) c (show a < s.length by rw [h.w.len]; exact ha) j
  have hp : a = nx n (wr_ n (hm c.k + (c.d - 1))) := by rw [nx_wr (h.w.hl _) (by have := h.cd; omega), show c.d - 1 + 1 = c.d by omega]; exact h.ca
  have hq : wr_ n (hm c.k + (c.d - 1)) < n := wr_lt (h.w.hl _) (by have := h.cd; omega)
  obtain ⟨p1, p2⟩ := h.ch (c.d - 1) (by omega)
  obtain ⟨hh1, hh2⟩ := h.w.home a ha hu
  have hone : ∃ z, z < n ∧ (atS (s.set a c) z).d = 0 := ⟨f, h.fn, by rw [e, if_neg (fun q => by subst q; have := h.fu; rw [hu] at this; cases this), h.w.zero f h.fn h.fu]; rfl⟩
  refine ⟨⟨⟨by rw [List.length_set, h.w.len], h.w.n2, h.w.hl, fun j hj q => ?_, fun j hj q => ?_, fun j hj q1 q2 => ?_⟩, fun x y hx hy q1 q2 q3 => ?_, hone⟩, hu, hh1.symm, hh2, fun x hx => ?_, fun i hi q1 q2 => ?_, h.fn, ?_, fun k v => ?_, ?_⟩
  · rw [e] at q ⊢
    by_cases r : j = a
    · rw [if_pos r, h.cu] at q; cases q
    · rw [if_neg r] at q ⊢; exact h.w.zero j hj q
  · rw [e] at q ⊢
    by_cases r : j = a
    · rw [if_pos r, r]; exact ⟨h.ca.symm, h.cd⟩
    · rw [if_neg r] at q ⊢; exact h.w.home j hj q
  · rw [e] at q1 q2 ⊢
    rw [e]
    by_cases r : nx n j = a
    · rw [if_pos r] at q1 q2 ⊢
      have : j = wr_ n (hm c.k + (c.d - 1)) := nx_inj hj hq (r.trans hp)
      have hne : j ≠ a := fun r2 => nx_ne h.w.n2 (r2 ▸ r)
      rw [if_neg hne, this]
      exact ⟨p1, by omega⟩
    · rw [if_neg r] at q1 q2 ⊢
      by_cases r2 : j = a
      · subst r2
        rw [if_pos rfl]
        have := h.w.ahead j hj q1 q2
        exact ⟨h.cu, by omega⟩
      · rw [if_neg r2]; exact h.w.ahead j hj q1 q2
  · rw [e] at q1 q3
    rw [e] at q2 q3
    by_cases r1 : x = a
    · by_cases r2 : y = a
      · rw [r1, r2]
      · rw [if_pos r1, if_neg r2] at q3
        rw [if_neg r2] at q2
        exact absurd q3.symm (h.no y hy q2)
    · by_cases r2 : y = a
      · rw [if_neg r1, if_pos r2] at q3
        rw [if_neg r1] at q1
        exact absurd q3 (h.no x hx q1)
      · rw [if_neg r1, if_neg r2] at q3
        rw [if_neg r1] at q1
        rw [if_neg r2] at q2
        exact h.w.nd x y hx hy q1 q2 q3
  · have hc := h.w.chain ha hu x (Nat.le_of_lt hx)
    rw [e]
    by_cases r : wr_ n (hm (atS s a).k + x) = a
    · exfalso
      have := wr_inj (h.w.hl _) (by omega) hh2 (r.trans hh1.symm)
      omega
    · rw [if_neg r]; exact hc
  · rw [e] at q1 q2
    by_cases r : i = a
    · rw [if_pos r] at q2
      exact h.no a ha hu q2.symm
    · rw [if_neg r] at q1 q2
      exact r (h.w.nd i a hi ha q1 hu q2)
  · rw [e, if_neg (fun q => by have := h.fu; rw [q, hu] at this; cases this)]; exact h.fu
  · rw [← h.mem k v]
    constructor
    · rintro (⟨i, hi, q1, q2, q3⟩ | ⟨q1, q2⟩)
      · rw [e] at q1 q2 q3
        by_cases r : i = a
        · rw [if_pos r] at q2 q3; exact .inr ⟨q2.symm, q3.symm⟩
        · rw [if_neg r] at q1 q2 q3; exact .inl ⟨i, hi, q1, q2, q3⟩
      · exact .inl ⟨a, ha, hu, q1.symm, q2.symm⟩
    · rintro (⟨i, hi, q1, q2, q3⟩ | ⟨q1, q2⟩)
      · by_cases r : i = a
        · subst r; exact .inr ⟨q2.symm, q3.symm⟩
        · exact .inl ⟨i, hi, by rw [e, if_neg r]; exact q1, by rw [e, if_neg r]; exact q2, by rw [e, if_neg r]; exact q3⟩
      · exact .inl ⟨a, ha, by rw [e, if_pos rfl]; exact h.cu, by rw [e, if_pos rfl]; exact q1.symm, by rw [e, if_pos rfl]; exact q2.symm⟩
  · have := cnt_set (s := s) (i := a) c (by rw [h.w.len]; exact ha)
    rw [hu, h.cu] at this
    simp at this
    rw [this, h.ct]
/-- The slot is not used: there it is put. -/
theorem Ins.done (h : Ins hm n s0 c0 f s c a) (hu : (atS s a).u = false) : WellT hm n (s.set a c) ∧ (∀ k v, HasK n (s.set a c) k v ↔ (HasK n s0 k v ∨ (k = c0.k ∧ v = c0.v))) ∧ cnt (s.set a c) = cnt s0 + 1 := by
  have ha := h.lt
  have e := fun j => atS_set (s := s) c (show a < s.length by rw [h.w.len]; exact ha) j
  have hz : (atS s (nx n a)).d = 0 := by
    cases q : (atS s (nx n a)).u with
    | false => rw [h.w.zero _ (nx_lt ha) q]; rfl
    | true =>
      rcases Nat.eq_zero_or_pos (atS s (nx n a)).d with r | r
      · exact r
      · have := (h.w.ahead a ha q r).1
        rw [hu] at this; cases this
  refine ⟨⟨⟨by rw [List.length_set, h.w.len], h.w.n2, h.w.hl, fun j hj q => ?_, fun j hj q => ?_, fun j hj q1 q2 => ?_⟩, fun x y hx hy q1 q2 q3 => ?_, ⟨nx n a, nx_lt ha, by rw [e, if_neg (nx_ne h.w.n2)]; exact hz⟩⟩, fun k v => ?_, ?_⟩
  · rw [e] at q ⊢
    by_cases r : j = a
    · rw [if_pos r, h.cu] at q; cases q
    · rw [if_neg r] at q ⊢; exact h.w.zero j hj q
  · rw [e] at q ⊢
    by_cases r : j = a
    · rw [if_pos r, r]; exact ⟨h.ca.symm, h.cd⟩
    · rw [if_neg r] at q ⊢; exact h.w.home j hj q
  · rw [e] at q1 q2 ⊢
    rw [e]
    by_cases r : nx n j = a
    · rw [if_pos r] at q1 q2 ⊢
      have hp : a = nx n (wr_ n (hm c.k + (c.d - 1))) := by rw [nx_wr (h.w.hl _) (by have := h.cd; omega), show c.d - 1 + 1 = c.d by omega]; exact h.ca
      have hq : wr_ n (hm c.k + (c.d - 1)) < n := wr_lt (h.w.hl _) (by have := h.cd; omega)
      obtain ⟨p1, p2⟩ := h.ch (c.d - 1) (by omega)
      have : j = wr_ n (hm c.k + (c.d - 1)) := nx_inj hj hq (r.trans hp)
      have hne : j ≠ a := fun r2 => nx_ne h.w.n2 (r2 ▸ r)
      rw [if_neg hne, this]
      exact ⟨p1, by omega⟩
    · rw [if_neg r] at q1 q2 ⊢
      by_cases r2 : j = a
      · subst r2
        omega
      · rw [if_neg r2]; exact h.w.ahead j hj q1 q2
  · rw [e] at q1 q3
    rw [e] at q2 q3
    by_cases r1 : x = a
    · by_cases r2 : y = a
      · rw [r1, r2]
      · rw [if_pos r1, if_neg r2] at q3
        rw [if_neg r2] at q2
        exact absurd q3.symm (h.no y hy q2)
    · by_cases r2 : y = a
      · rw [if_neg r1, if_pos r2] at q3
        rw [if_neg r1] at q1
        exact absurd q3 (h.no x hx q1)
      · rw [if_neg r1, if_neg r2] at q3
        rw [if_neg r1] at q1
        rw [if_neg r2] at q2
        exact h.w.nd x y hx hy q1 q2 q3
  · rw [← h.mem k v]
    constructor
    · rintro ⟨i, hi, q1, q2, q3⟩
      rw [e] at q1 q2 q3
      by_cases r : i = a
      · rw [if_pos r] at q2 q3; exact .inr ⟨q2.symm, q3.symm⟩
      · rw [if_neg r] at q1 q2 q3; exact .inl ⟨i, hi, q1, q2, q3⟩
    · rintro (⟨i, hi, q1, q2, q3⟩ | ⟨q1, q2⟩)
      · have r : i ≠ a := fun r => by rw [r, hu] at q1; cases q1
        exact ⟨i, hi, by rw [e, if_neg r]; exact q1, by rw [e, if_neg r]; exact q2, by rw [e, if_neg r]; exact q3⟩
      · exact ⟨a, ha, by rw [e, if_pos rfl]; exact h.cu, by rw [e, if_pos rfl]; exact q1.symm, by rw [e, if_pos rfl]; exact q2.symm⟩
  · have := cnt_set (s := s) (i := a) c (by rw [h.w.len]; exact ha)
    rw [hu, h.cu] at this
    simp at this
    rw [this, h.ct]
end
/-! Taking out. -/
/-- Slot a is a hole: what stands there is elsewhere, or gone. -/
structure Del (hm : ByteArray → Nat) (n : Nat) (s0 : List RS) (key : ByteArray) (z : Nat) (s : List RS) (a : Nat) : Prop where
  w : Half hm n s
  al : a < n
  au : (atS s a).u = true
  nd : ∀ i j, i < n → j < n → i ≠ a → j ≠ a → (atS s i).u = true → (atS s j).u = true → (atS s i).k = (atS s j).k → i = j
  zn : z < n
  zd : (atS s z).d = 0
  mem : ∀ k v, (∃ i, i < n ∧ i ≠ a ∧ (atS s i).u = true ∧ (atS s i).k = k ∧ (atS s i).v = v) ↔ (HasK n s0 k v ∧ k ≠ key)
  ct : cnt s = cnt s0
section
variable {hm : ByteArray → Nat} {n z a : Nat} {s0 s : List RS} {key : ByteArray}
theorem Del.start (h : WellT hm n s) (ha : a < n) (hu : (atS s a).u = true) : ∃ z, Del hm n s (atS s a).k z s a := by
  obtain ⟨z, z1, z2⟩ := h.one
  refine ⟨z, h.toHalf, ha, hu, fun i j hi hj _ _ => h.nd i j hi hj, z1, z2, fun k v => ?_, rfl⟩
  constructor
  · rintro ⟨i, hi, hne, q1, q2, q3⟩
    exact ⟨⟨i, hi, q1, q2, q3⟩, fun e => hne (h.nd i a hi ha q1 hu (q2.trans e))⟩
  · rintro ⟨⟨i, hi, q1, q2, q3⟩, hk⟩
    exact ⟨i, hi, fun e => hk (by rw [← q2, e]), q1, q2, q3⟩
/-- The one behind is not at home: it moves up. -/
theorem Del.up (h : Del hm n s0 key z s a) (hd : 0 < (atS s (nx n a)).d) : Del hm n s0 key z (s.set a { atS s (nx n a) with d := (atS s (nx n a)).d - 1 }) (nx n a) := by
  obtain ⟨m, hmm⟩ : ∃ m, m = ({ atS s (nx n a) with d := (atS s (nx n a)).d - 1 } : RS) := ⟨_, rfl⟩
  have mu : m.u = (atS s (nx n a)).u := by rw [hmm]
  have mk_ : m.k = (atS s (nx n a)).k := by rw [hmm]
  have mv : m.v = (atS s (nx n a)).v := by rw [hmm]
  have md : m.d = (atS s (nx n a)).d - 1 := by rw [hmm]
  rw [← hmm]
  have hb := nx_lt h.al
  have hne : nx n a ≠ a := nx_ne h.w.n2
  have e := fun j => atS_set (s := s) m (show a < s.length by rw [h.w.len]; exact h.al) j
  have hbu : (atS s (nx n a)).u = true := by
    cases q : (atS s (nx n a)).u with
    | true => rfl
    | false => rw [h.w.zero _ hb q] at hd; exact absurd hd (by decide)
  obtain ⟨a1, a2⟩ := h.w.ahead a h.al hbu hd
  obtain ⟨h1, h2⟩ := h.w.home _ hb hbu
  have hmh : wr_ n (hm m.k + m.d) = a ∧ m.d < n := by
    rw [mk_, md]
    refine ⟨?_, by omega⟩
    have h3 : nx n (wr_ n (hm (atS s (nx n a)).k + ((atS s (nx n a)).d - 1))) = nx n a := by rw [nx_wr (h.w.hl _) (by omega), show (atS s (nx n a)).d - 1 + 1 = (atS s (nx n a)).d by omega]; exact h1
    exact nx_inj (wr_lt (h.w.hl _) (by omega)) h.al h3
  refine ⟨⟨by rw [List.length_set, h.w.len], h.w.n2, h.w.hl, fun j hj q => ?_, fun j hj q => ?_, fun j hj q1 q2 => ?_⟩, hb, by rw [e, if_neg hne]; exact hbu, fun i j hi hj g1 g2 q1 q2 q3 => ?_, h.zn, ?_, fun k v => ?_, ?_⟩
  · rw [e] at q ⊢
    by_cases r : j = a
    · rw [if_pos r, mu, hbu] at q; cases q
    · rw [if_neg r] at q ⊢; exact h.w.zero j hj q
  · rw [e] at q ⊢
    by_cases r : j = a
    · rw [if_pos r, r]; exact hmh
    · rw [if_neg r] at q ⊢; exact h.w.home j hj q
  · rw [e] at q1 q2 ⊢
    rw [e]
    by_cases r : nx n j = a
    · rw [if_pos r] at q1 q2 ⊢
      have hja : j ≠ a := fun r2 => nx_ne h.w.n2 (r2 ▸ r)
      rw [if_neg hja]
      have q3 := h.w.ahead j hj (by rw [r]; exact h.au) (by rw [r]; omega)
      rw [r] at q3
      exact ⟨q3.1, by omega⟩
    · rw [if_neg r] at q1 q2 ⊢
      by_cases r2 : j = a
      · subst r2
        rw [if_pos rfl]
        exact ⟨by rw [mu]; exact hbu, by omega⟩
      · rw [if_neg r2]; exact h.w.ahead j hj q1 q2
  · rw [e] at q1 q3
    rw [e] at q2 q3
    by_cases r1 : i = a
    · by_cases r2 : j = a
      · rw [r1, r2]
      · rw [if_pos r1, if_neg r2, mk_] at q3
        rw [if_neg r2] at q2
        exact absurd (h.nd (nx n a) j hb hj hne r2 hbu q2 q3).symm g2
    · by_cases r2 : j = a
      · rw [if_neg r1, if_pos r2, mk_] at q3
        rw [if_neg r1] at q1
        exact absurd (h.nd i (nx n a) hi hb r1 hne q1 hbu q3) g1
      · rw [if_neg r1, if_neg r2] at q3
        rw [if_neg r1] at q1
        rw [if_neg r2] at q2
        exact h.nd i j hi hj r1 r2 q1 q2 q3
  · rw [e]
    by_cases r : z = a
    · rw [if_pos r, md]
      have := h.zd
      rw [r] at this
      omega
    · rw [if_neg r]; exact h.zd
  · rw [← h.mem k v]
    constructor
    · rintro ⟨i, hi, g, q1, q2, q3⟩
      rw [e] at q1 q2 q3
      by_cases r : i = a
      · rw [if_pos r] at q1 q2 q3
        exact ⟨nx n a, hb, hne, hbu, by rw [← mk_]; exact q2, by rw [← mv]; exact q3⟩
      · rw [if_neg r] at q1 q2 q3
        exact ⟨i, hi, r, q1, q2, q3⟩
    · rintro ⟨i, hi, g, q1, q2, q3⟩
      by_cases r : i = nx n a
      · subst r
        exact ⟨a, h.al, hne.symm, by rw [e, if_pos rfl, mu]; exact q1, by rw [e, if_pos rfl, mk_]; exact q2, by rw [e, if_pos rfl, mv]; exact q3⟩
      · exact ⟨i, hi, r, by rw [e, if_neg g]; exact q1, by rw [e, if_neg g]; exact q2, by rw [e, if_neg g]; exact q3⟩
  · have := cnt_set (s := s) (i := a) m (by rw [h.w.len]; exact h.al)
    rw [h.au, mu, hbu] at this
    simp at this
    rw [this, h.ct]
/-- The one behind is at home, or there is none: the hole is made a slot that is not used. -/
theorem Del.done (h : Del hm n s0 key z s a) (hd : (atS s (nx n a)).d = 0) : WellT hm n (s.set a zS) ∧ (∀ k v, HasK n (s.set a zS) k v ↔ (HasK n s0 k v ∧ k ≠ key)) ∧ cnt (s.set a zS) + 1 = cnt s0 := by
  have e := fun j => atS_set (s := s) zS (show a < s.length by rw [h.w.len]; exact h.al) j
  have zu : zS.u = false := rfl
  refine ⟨⟨⟨by rw [List.length_set, h.w.len], h.w.n2, h.w.hl, fun j hj q => ?_, fun j hj q => ?_, fun j hj q1 q2 => ?_⟩, fun x y hx hy q1 q2 q3 => ?_, ⟨a, h.al, by rw [e, if_pos rfl]; rfl⟩⟩, fun k v => ?_, ?_⟩
  · rw [e] at q ⊢
    by_cases r : j = a
    · rw [if_pos r]
    · rw [if_neg r] at q ⊢; exact h.w.zero j hj q
  · rw [e] at q ⊢
    by_cases r : j = a
    · rw [if_pos r] at q; cases q
    · rw [if_neg r] at q ⊢; exact h.w.home j hj q
  · rw [e] at q1 q2 ⊢
    rw [e]
    by_cases r : nx n j = a
    · rw [if_pos r] at q1; cases q1
    · rw [if_neg r] at q1 q2 ⊢
      by_cases r2 : j = a
      · subst r2; omega
      · rw [if_neg r2]; exact h.w.ahead j hj q1 q2
  · rw [e] at q1 q3
    rw [e] at q2 q3
    by_cases r1 : x = a
    · rw [if_pos r1] at q1; cases q1
    · by_cases r2 : y = a
      · rw [if_pos r2] at q2; cases q2
      · rw [if_neg r1, if_neg r2] at q3
        rw [if_neg r1] at q1
        rw [if_neg r2] at q2
        exact h.nd x y hx hy r1 r2 q1 q2 q3
  · rw [← h.mem k v]
    constructor
    · rintro ⟨i, hi, q1, q2, q3⟩
      rw [e] at q1 q2 q3
      by_cases r : i = a
      · rw [if_pos r] at q1; cases q1
      · rw [if_neg r] at q1 q2 q3; exact ⟨i, hi, r, q1, q2, q3⟩
    · rintro ⟨i, hi, r, q1, q2, q3⟩
      exact ⟨i, hi, by rw [e, if_neg r]; exact q1, by rw [e, if_neg r]; exact q2, by rw [e, if_neg r]; exact q3⟩
  · have := cnt_set (s := s) (i := a) zS (by rw [h.w.len]; exact h.al)
    rw [h.au, zu] at this
    simp at this
    have := h.ct
    omega
end
/-- A table without keys. -/
theorem WellT.new {hm : ByteArray → Nat} {n : Nat} (h2 : 2 ≤ n) (hl : ∀ k, hm k < n) : WellT hm n (List.replicate n zS) := by
  have e : ∀ i, atS (List.replicate n zS) i = zS := fun i => by
    unfold atS
    rw [List.getD_eq_getElem?_getD, List.getElem?_replicate]
    split <;> rfl
  refine ⟨⟨by simp, h2, hl, fun i _ _ => e i, fun i _ q => ?_, fun i _ q => ?_⟩, fun i _ _ _ q => ?_, ⟨0, by omega, by rw [e]; rfl⟩⟩
  · rw [e] at q; cases q
  · rw [e] at q; cases q
  · rw [e] at q; cases q
end Go.Proofs.YtgcdminjpdbchaaDoor
