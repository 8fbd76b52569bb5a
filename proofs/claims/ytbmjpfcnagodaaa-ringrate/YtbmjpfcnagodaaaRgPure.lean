/- What the iterator's buckets count is what the document's do: plain arithmetic. -/
import Derived.Test.YtbmjpfcnagodaaaRg5
namespace Go.Proofs.Ytbmjpfcnagodaaa

theorem csum_congr {g h : Int → Int} {q : Int} {n : Nat} (e : ∀ i : Nat, i < n → g (q + i) = h (q + i)) : csum g q n = csum h q n := by
  induction n with
  | zero => rfl
  | succ n ih => simp only [csum]; rw [ih (fun i hi => e i (by omega)), e n (by omega)]
theorem csum_zero {g : Int → Int} {q : Int} {n : Nat} (e : ∀ i : Nat, i < n → g (q + i) = 0) : csum g q n = 0 := by
  induction n with
  | zero => rfl
  | succ n ih => simp only [csum]; rw [ih (fun i hi => e i (by omega)), e n (by omega)]; rfl
theorem csum_add (g : Int → Int) (q : Int) (m n : Nat) : csum g q (m + n) = csum g q m + csum g (q + m) n := by
  induction n with
  | zero => simp [csum]
  | succ n ih =>
    rw [← Nat.add_assoc]
    simp only [csum]
    rw [ih, show q + (m : Int) + (n : Int) = q + ((m + n : Nat) : Int) by omega]
    omega
/-- A time lies ahead of a bucket's end just if its bucket is an earlier one. -/
theorem lt_goes {T sl q : Int} (hs : 1 ≤ sl) : T < q * sl ↔ T / sl < q := by
  constructor
  · intro h; exact Int.ediv_lt_of_lt_mul (by omega) h
  · intro h; exact Int.lt_mul_of_ediv_lt (by omega) h
theorem tsum_up {sn : Nat} (Q sl b N : Int) (f : Nat → Int) (t : Int) (j : Nat) (hj : j ≤ sn) :
    tsum (sn := sn) Q sl b N f t (upL sn j) = csum (fun q => if t < goesI Q sl ((q - 0).toNat + 1) then valV b N f q.toNat else 0) 0 j := by
  induction j with
  | zero => rfl
  | succ j ih =>
    rw [upL_succ (show j < sn by omega), tsum_snoc, ih (by omega)]
    simp only [csum]
    simp
/-- What counts by the iterator is what counts by the document. -/
theorem counts_eq {l b N sl T : Int} {sn : Nat} {f : Nat → Int} (hs : 1 ≤ sl) (hb : 1 ≤ b) (hN : 0 ≤ N) (hT : N ≤ T / sl) (hm : MaySums l b N sn f) :
    tsum (sn := sn) (N * sl) sl b N f T (upL sn sn) = cntV b N (T / sl) sn f := by
  obtain ⟨M, hM⟩ : ∃ M, T / sl = M := ⟨_, rfl⟩
  rw [hM] at hT ⊢
  rcases hm.len with h0 | h0
  · subst h0
    show (0 : Int) = _
    unfold cntV
    rw [csum_zero]
    intro i _
    unfold inV
    rw [if_pos (.inr (.inr rfl))]
  · rw [tsum_up _ _ _ _ _ _ _ (Nat.le_refl _)]
    have hbn : b.toNat = sn := by omega
    unfold cntV
    rw [hbn]
    -- the iterator's buckets by their numbers
    have e1 : csum (fun q => if T < goesI (N * sl) sl ((q - 0).toNat + 1) then valV b N f q.toNat else 0) 0 sn = csum (fun q => if M - b < q then inV b N sn f q else 0) (N - b + 1) sn := by
      have shift : ∀ n : Nat, n ≤ sn → csum (fun q => if T < goesI (N * sl) sl ((q - 0).toNat + 1) then valV b N f q.toNat else 0) 0 n = csum (fun q => if M - b < q then inV b N sn f q else 0) (N - b + 1) n := by
        intro n
        induction n with
        | zero => intro _; rfl
        | succ n ih =>
          intro hn
          simp only [csum]
          rw [ih (by omega)]
          congr 1
          rw [show ((0 : Int) + (n : Int) - 0).toNat = n by omega, show ((0 : Int) + (n : Int)).toNat = n by omega, goesI_eq]
          by_cases hc : M < N + ((n + 1 : Nat) : Int)
          · rw [if_pos ((lt_goes hs).2 (by rw [hM]; exact hc)), if_pos (by omega)]
            unfold valV inV
            by_cases hq : N - b + 1 + (n : Int) < 0
            · rw [if_pos (.inl hq)]
              have em : (N + 1 + (n : Int)) % b = N + 1 + (n : Int) := Int.emod_eq_of_lt (by omega) (by omega)
              rw [em]
              have h1 := hm.each (N + 1 + (n : Int)).toNat (by omega)
              rcases Int.lt_or_eq_of_le h1.1 with h2 | h2
              · have := h1.2.2 h2; omega
              · exact h2.symm
            · rw [if_neg (by omega)]
              have em : (N + 1 + (n : Int)) % b = (N - b + 1 + (n : Int)) % b := by
                rw [show N + 1 + (n : Int) = (N - b + 1 + (n : Int)) + b by omega, Int.add_emod_right]
              rw [em]
          · rw [if_neg (fun h => hc (by have := (lt_goes hs).1 h; rw [hM] at this; exact this)), if_neg (by omega)]
      exact shift sn (Nat.le_refl _)
    rw [e1]
    obtain ⟨d, hd⟩ : ∃ d : Nat, M - N = (d : Int) := ⟨(M - N).toNat, by omega⟩
    have z1 : csum (fun q => if M - b < q then inV b N sn f q else 0) (N - b + 1) (sn + d) = csum (fun q => if M - b < q then inV b N sn f q else 0) (N - b + 1) sn := by
      rw [csum_add, csum_zero (n := d), Int.add_zero]
      intro i _
      have : inV b N sn f (N - b + 1 + (sn : Int) + (i : Int)) = 0 := by unfold inV; rw [if_pos (.inr (.inl (by omega)))]
      show (if _ then _ else _) = _
      rw [this]
      split <;> rfl
    rw [← z1, Nat.add_comm, csum_add, csum_zero (n := d), Int.zero_add, show N - b + 1 + (d : Int) = M - b + 1 by omega]
    · refine csum_congr (fun i _ => ?_)
      show (if _ then _ else _) = _
      rw [if_pos (by omega)]
    · intro i hi
      show (if _ then _ else _) = _
      rw [if_neg (by omega)]
end Go.Proofs.Ytbmjpfcnagodaaa
