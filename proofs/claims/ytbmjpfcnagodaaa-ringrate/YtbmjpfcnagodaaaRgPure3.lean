/- When no more than so much counts of a ring: plain arithmetic. -/
import Derived.Test.YtbmjpfcnagodaaaRgPure2
namespace Go.Proofs.Ytbmjpfcnagodaaa
set_option linter.unusedVariables false

theorem firstK_eq {C : Int → Int} {most M : Int} {k : Nat} : ∀ (r q : Nat), q ≤ k → (∀ i : Nat, q ≤ i → i < k → most < C (M + i)) → k ≤ q + r → (k < q + r → C (M + k) ≤ most) → firstK C most M q r = k := by
  intro r
  induction r with
  | zero => intro q h1 h2 h3 h4; rw [firstK]; omega
  | succ r ih =>
    intro q h1 h2 h3 h4
    rw [firstK]
    by_cases e : q = k
    · subst e; rw [if_pos (h4 (by omega))]
    · have := h2 q (Nat.le_refl _) (by omega)
      rw [if_neg (by omega)]
      exact ih (q + 1) (by omega) (fun i hi hk => h2 i (by omega) hk) (by omega) (fun h => h4 (by omega))
theorem firstK_spec (C : Int → Int) (most M : Int) : ∀ (r q : Nat), q ≤ firstK C most M q r ∧ firstK C most M q r ≤ q + r ∧ (∀ i : Nat, q ≤ i → i < firstK C most M q r → most < C (M + i)) ∧ (firstK C most M q r < q + r → C (M + firstK C most M q r) ≤ most) := by
  intro r
  induction r with
  | zero => intro q; rw [firstK]; exact ⟨Nat.le_refl _, Nat.le_refl _, fun i h1 h2 => by omega, fun h => by omega⟩
  | succ r ih =>
    intro q
    rw [firstK]
    by_cases c : C (M + q) ≤ most
    · rw [if_pos c]; exact ⟨Nat.le_refl _, by omega, fun i h1 h2 => by omega, fun _ => c⟩
    · rw [if_neg c]
      obtain ⟨h1, h2, h3, h4⟩ := ih (q + 1)
      refine ⟨by omega, by omega, fun i hi hk => ?_, fun h => h4 (by omega)⟩
      by_cases e : i = q
      · subst e; omega
      · exact h3 i (by omega) hk
theorem waitV_congr {C D : Int → Int} {sl M b t most : Int} (h : ∀ q : Nat, C (M + q) = D (M + q)) : waitV C sl M b t most = waitV D sl M b t most := by
  have h0 : C M = D M := by have := h 0; simpa using this
  have hk : ∀ r q, firstK C most M q r = firstK D most M q r := by
    intro r
    induction r with
    | zero => intro q; rfl
    | succ r ih => intro q; rw [firstK, firstK, h, ih]
  unfold waitV
  rw [h0, hk]
theorem wait_zero {C : Int → Int} {sl M b t most : Int} (h : C M ≤ most) : waitV C sl M b t most = 0 := if_pos h
/-- What is waited for: the first bucket's begin at which no more than so much counts. -/
theorem wait_pos {C : Int → Int} {sl b t most : Int} (hs : 1 ≤ sl) (hs2 : sl ≤ 1048576) (ht : 0 ≤ t) (hb : 1 ≤ b) (hb2 : b ≤ 16) (h : most < C (t / sl)) (hend : C (t / sl + b) ≤ most) :
    0 < waitV C sl (t / sl) b t most ∧ waitV C sl (t / sl) b t most ≤ 16777216 ∧ C ((t + waitV C sl (t / sl) b t most) / sl) ≤ most ∧ most < C ((t + waitV C sl (t / sl) b t most - 1) / sl) ∧ waitV C sl (t / sl) b t most ≤ sl * b := by
  obtain ⟨h1, h2, h3, h4⟩ := firstK_spec C most (t / sl) (b.toNat - 1) 1
  unfold waitV
  rw [if_neg (by omega)]
  generalize firstK C most (t / sl) 1 (b.toNat - 1) = k at *
  obtain ⟨x1, x2, x3⟩ := slk_bd hs hs2 ht k (by omega) h1
  refine ⟨by omega, by omega, ?_, ?_, ?_⟩
  · rw [show t + (sl * (t / sl + (k : Int)) - t) = sl * (t / sl + (k : Int)) by omega, x3]
    by_cases e : k < 1 + (b.toNat - 1)
    · exact h4 e
    · rw [show (k : Int) = b by omega]; exact hend
  · rw [show t + (sl * (t / sl + (k : Int)) - t) - 1 = sl * (t / sl + (k : Int)) - 1 by omega]
    have e : (sl * (t / sl + (k : Int)) - 1) / sl = t / sl + ((k - 1 : Nat) : Int) := by
      have : sl * (t / sl + (k : Int)) - 1 = (sl - 1) + sl * (t / sl + ((k - 1 : Nat) : Int)) := by
        rw [show (t / sl + (k : Int)) = (t / sl + ((k - 1 : Nat) : Int)) + 1 by omega, Int.mul_add, Int.mul_one]; omega
      rw [this, Int.add_mul_ediv_left _ _ (by omega), Int.ediv_eq_zero_of_lt (by omega) (by omega)]; omega
    rw [e]
    by_cases e0 : k = 1
    · subst e0; simpa using h
    · exact h3 (k - 1) (by omega) (by omega)
  · have q2 : sl * (t / sl) + t % sl = t := Int.mul_ediv_add_emod t sl
    have q3 : 0 ≤ t % sl := Int.emod_nonneg _ (by omega)
    have q5 : sl * (k : Int) ≤ sl * b := Int.mul_le_mul_of_nonneg_left (by omega) (by omega)
    rw [Int.mul_add]; omega
theorem wait_nn {C : Int → Int} {sl b t most : Int} (hs : 1 ≤ sl) (hs2 : sl ≤ 1048576) (ht : 0 ≤ t) (hb : 1 ≤ b) (hb2 : b ≤ 16) : 0 ≤ waitV C sl (t / sl) b t most ∧ waitV C sl (t / sl) b t most ≤ 16777216 ∧ (waitV C sl (t / sl) b t most = 0 ↔ C (t / sl) ≤ most) := by
  by_cases h : C (t / sl) ≤ most
  · rw [wait_zero h]; exact ⟨by omega, by omega, fun _ => h, fun _ => rfl⟩
  · obtain ⟨h1, h2, _, _⟩ := firstK_spec C most (t / sl) (b.toNat - 1) 1
    unfold waitV
    rw [if_neg h]
    generalize firstK C most (t / sl) 1 (b.toNat - 1) = k at *
    obtain ⟨x1, x2, x3⟩ := slk_bd hs hs2 ht k (by omega) h1
    exact ⟨by omega, by omega, fun h => by omega, fun q => absurd q h⟩

/-- What the iterator tells of a bucket is what was let in in it. -/
theorem val_in {l b N : Int} {sn : Nat} {f : Nat → Int} (hb : 1 ≤ b) (hN : 0 ≤ N) (hm : MaySums l b N sn f) (j : Nat) (hj : j < sn) : valV b N f j = inV b N sn f (N + j - b + 1) := by
  have hs : (sn : Int) = b := hm.len.resolve_left (by omega)
  unfold valV inV
  by_cases hq : N + (j : Int) - b + 1 < 0
  · rw [if_pos (.inl hq), show (N + 1 + (j : Int)) % b = N + 1 + j from Int.emod_eq_of_lt (by omega) (by omega)]
    exact hm.zero _ (by omega) (by omega)
  · rw [if_neg (by omega)]
    have em : (N + 1 + (j : Int)) % b = (N + (j : Int) - b + 1) % b := by
      rw [show N + 1 + (j : Int) = (N + (j : Int) - b + 1) + b by omega, Int.add_emod_right]
    rw [em]
/-- What is left behind these. -/
def leftL {sn : Nat} (tot b N : Int) (f : Nat → Int) (pre : List (Ix sn)) : Int := tot - (pre.map fun x => valV b N f x.1).sum
/-- When the last one of these went. -/
def firstL {sn : Nat} (a q sl : Int) (pre : List (Ix sn)) : Int := match pre.getLast? with | none => a | some x => goesI q sl (x.1 + 1)
theorem leftL_snoc {sn : Nat} (tot b N : Int) (f : Nat → Int) (pre : List (Ix sn)) (x : Ix sn) : leftL tot b N f (pre ++ [x]) = leftL tot b N f pre - valV b N f x.1 := by
  unfold leftL; simp; omega
theorem firstL_snoc {sn : Nat} (a q sl : Int) (pre : List (Ix sn)) (x : Ix sn) : firstL a q sl (pre ++ [x]) = goesI q sl (x.1 + 1) := by
  unfold firstL; simp
theorem firstL_bd {sn : Nat} {a q sl : Int} (h0 : 0 ≤ a) (h1 : 0 ≤ q) (h2 : 1 ≤ sl) (h3 : sl ≤ 1048576) (hsn : sn ≤ 16) (ha : a ≤ 1099511627776) (hq : q ≤ a) (pre : List (Ix sn)) : 0 ≤ firstL a q sl pre ∧ firstL a q sl pre ≤ 2199023255552 := by
  unfold firstL
  split
  · omega
  · rename_i x _
    have := goesI_bd h1 h2 h3 (x.1 + 1)
    have := x.2
    omega
theorem leftL_bd {sn : Nat} {tot b N : Int} {f : Nat → Int} (h : ∀ i, 0 ≤ valV b N f i ∧ valV b N f i ≤ 1048576) (pre : List (Ix sn)) : leftL tot b N f pre ≤ tot ∧ tot - pre.length * 1048576 ≤ leftL tot b N f pre := by
  unfold leftL
  have : 0 ≤ (pre.map fun x => valV b N f x.1).sum ∧ (pre.map fun x => valV b N f x.1).sum ≤ pre.length * 1048576 := by
    induction pre with
    | nil => simp
    | cons x xs ih =>
      have := h x.1
      simp only [List.map_cons, List.sum_cons, List.length_cons]
      omega
  omega
theorem leftL_up {l b N : Int} {sn : Nat} {f : Nat → Int} (hb : 1 ≤ b) (hN : 0 ≤ N) (hm : MaySums l b N sn f) (j : Nat) (hj : j ≤ sn) : leftL (sn := sn) (cntV b N N sn f) b N f (upL sn j) = cntV b N (N + j) sn f := by
  induction j with
  | zero => simp [leftL, upL]
  | succ j ih =>
    rw [upL_succ (show j < sn by omega), leftL_snoc, ih (by omega), val_in hb hN hm j (by omega)]
    have := cnt_step (N := N) (X := N + j) (sn := sn) (f := f) hb (by omega)
    rw [show N + ((j + 1 : Nat) : Int) = N + j + 1 by omega]
    omega
theorem firstL_up {a N sl : Int} {sn : Nat} (j : Nat) (hj : j ≤ sn) : firstL (sn := sn) a (N * sl) sl (upL sn j) = if j = 0 then a else (N + j) * sl := by
  match j with
  | 0 => rfl
  | j + 1 => rw [upL_succ (show j < sn by omega), firstL_snoc, if_neg (by omega), goesI_eq]
theorem upL_length {sn : Nat} (j : Nat) (hj : j ≤ sn) : (upL sn j).length = j := by
  induction j with
  | zero => rfl
  | succ j ih => rw [upL_succ (show j < sn by omega)]; simp [ih (by omega)]
theorem upL_take {sn : Nat} (j : Nat) (hj : j ≤ sn) (i : Nat) (hi : i ≤ j) : (upL sn j).take i = upL sn i := by
  induction j with
  | zero => have : i = 0 := by omega
            subst this; rfl
  | succ j ih =>
    rw [upL_succ (show j < sn by omega)]
    by_cases e : i = j + 1
    · subst e
      rw [upL_succ (show j < sn by omega), List.take_of_length_le]
      have := upL_length (sn := sn) j (by omega)
      simp [this]
    · rw [List.take_append_of_le_length (by rw [upL_length j (by omega)]; omega), ih (by omega) (by omega)]
/-- What fits tells where it stops behind the j-th bucket. -/
theorem fits_at {l b N sl a most : Int} {sn j : Nat} {f : Nat → Int} (hb : 1 ≤ b) (hm : MaySums l b N sn f) (hN : 0 ≤ N) (hmost : 0 ≤ most) (hj : j ≤ sn)
    (h1 : ∀ i, i < j → most < leftL (sn := sn) (cntV b N N sn f) b N f (upL sn i)) (h2 : j = sn ∨ leftL (sn := sn) (cntV b N N sn f) b N f (upL sn j) ≤ most) :
    firstL (sn := sn) a (N * sl) sl (upL sn j) = a + waitV (fun m => cntV b N m sn f) sl N b a most := by
  rw [firstL_up j hj]
  have h1' : ∀ i : Nat, i < j → most < cntV b N (N + i) sn f := fun i hi => by rw [← leftL_up hb hN hm i (by omega)]; exact h1 i hi
  by_cases e : j = 0
  · subst e
    rw [if_pos rfl]
    have c0 : cntV b N N sn f ≤ most := by
      rcases h2 with h | h
      · subst h
        unfold cntV
        rw [csum_zero (fun i _ => by unfold inV; rw [if_pos (.inr (.inr rfl))])]
        exact hmost
      · rw [leftL_up hb hN hm 0 (by omega)] at h; simpa using h
    rw [wait_zero c0, Int.add_zero]
  · rw [if_neg e]
    have hs : (sn : Int) = b := hm.len.resolve_left (by omega)
    have c0 : most < cntV b N N sn f := by have := h1' 0 (by omega); simpa using this
    unfold waitV
    rw [if_neg (show ¬ (fun m => cntV b N m sn f) N ≤ most by show ¬ cntV b N N sn f ≤ most; omega), firstK_eq (k := j) (b.toNat - 1) 1 (by omega) (fun i _ hk => h1' i hk) (by omega) (fun h => ?_)]
    · rw [Int.mul_comm]; omega
    · rcases h2 with h' | h'
      · omega
      · rw [leftL_up hb hN hm j hj] at h'; exact h'
end Go.Proofs.Ytbmjpfcnagodaaa
