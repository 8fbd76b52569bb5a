/- A ring that is turned, and one more that is let in: plain arithmetic of what counts. -/
import Derived.Test.YtbmjpfcnagodaaaRg8
namespace Go.Proofs.Ytbmjpfcnagodaaa
set_option linter.unusedVariables false

/-- What a turned ring has at a place. -/
def turnV (b N M : Int) (sn : Nat) (f : Nat → Int) (j : Nat) : Int := inV b N sn f (M - (M - j) % b)
theorem back_mod {b M q : Int} (hb : 1 ≤ b) (h1 : M - b < q) (h2 : q ≤ M) (h0 : 0 ≤ q) : M - (M - ((q % b).toNat : Int)) % b = q := by
  have m0 : 0 ≤ q % b := Int.emod_nonneg _ (by omega)
  have e : (M - q % b) % b = M - q := by
    have : (M - q % b) % b = (M - q) % b := by
      rw [Int.sub_emod, Int.emod_emod_of_dvd q (Int.dvd_refl b), ← Int.sub_emod]
    rw [this]
    exact Int.emod_eq_of_lt (by omega) (by omega)
  rw [Int.toNat_of_nonneg m0, e]; omega
theorem inV_turn {b N M : Int} {sn : Nat} {f : Nat → Int} (hb : 1 ≤ b) (hN : N ≤ M) {q : Int} (hq : M - b < q) : inV b M b.toNat (turnV b N M sn f) q = inV b N sn f q := by
  by_cases h1 : q < 0
  · unfold inV; rw [if_pos (.inl h1), if_pos (.inl h1)]
  · by_cases h2 : M < q
    · unfold inV; rw [if_pos (.inr (.inl h2)), if_pos (.inr (.inl (by omega)))]
    · have e : inV b M b.toNat (turnV b N M sn f) q = turnV b N M sn f (q % b).toNat := by
        rw [inV, if_neg (by omega)]
      rw [e, turnV, back_mod hb hq (by omega) (by omega)]
theorem cnt_turn {b N M X : Int} {sn : Nat} {f : Nat → Int} (hb : 1 ≤ b) (hN : N ≤ M) (hX : M ≤ X) : cntV b M X b.toNat (turnV b N M sn f) = cntV b N X sn f := by
  unfold cntV
  exact csum_congr (fun i _ => inV_turn hb hN (by omega))
/-- One place anew. -/
def putF (f : Nat → Int) (j : Nat) (x : Int) (i : Nat) : Int := if i = j then x else f i
theorem mod_same {b M q : Int} (hb : 1 ≤ b) (h1 : M - b < q) (h2 : q ≤ M) (e : q % b = M % b) : q = M := by
  have : (M - q) % b = 0 := by rw [Int.sub_emod, e, Int.sub_self, Int.zero_emod]
  have h := Int.emod_eq_of_lt (a := M - q) (b := b) (by omega) (by omega)
  omega
theorem inV_put {b M m : Int} {f : Nat → Int} (hb : 1 ≤ b) (hM : 0 ≤ M) {q : Int} (hq : M - b < q) :
    inV b M b.toNat (putF f (M % b).toNat (f (M % b).toNat + m)) q = inV b M b.toNat f q + if q = M then m else 0 := by
  by_cases h1 : q < 0 ∨ M < q ∨ b.toNat = 0
  · unfold inV; rw [if_pos h1, if_pos h1, if_neg (by omega)]; rfl
  · unfold inV
    rw [if_neg h1, if_neg h1]
    have m0 : 0 ≤ q % b := Int.emod_nonneg _ (by omega)
    have m1 : 0 ≤ M % b := Int.emod_nonneg _ (by omega)
    unfold putF
    by_cases e : q = M
    · subst e; rw [if_pos rfl, if_pos rfl]
    · rw [if_neg e, if_neg, Int.add_zero]
      intro h
      exact e (mod_same hb hq (by omega) (by omega))
theorem csum_addf (g h : Int → Int) (q : Int) (n : Nat) : csum (fun x => g x + h x) q n = csum g q n + csum h q n := by
  induction n with
  | zero => rfl
  | succ n ih => simp only [csum]; rw [ih]; omega
theorem csum_one (M m q : Int) (n : Nat) : csum (fun x => if x = M then m else 0) q n = if q ≤ M ∧ M < q + n then m else 0 := by
  induction n with
  | zero => simp only [csum]; rw [if_neg (by omega)]
  | succ n ih =>
    simp only [csum]
    rw [ih]
    by_cases h : q + (n : Int) = M
    · rw [if_neg (by omega), if_pos h, if_pos (by omega), Int.zero_add]
    · rw [if_neg h, Int.add_zero]
      by_cases h2 : q ≤ M ∧ M < q + n
      · rw [if_pos h2, if_pos (by omega)]
      · rw [if_neg h2, if_neg (by omega)]
theorem cnt_put {b M m X : Int} {f : Nat → Int} (hb : 1 ≤ b) (hM : 0 ≤ M) (hX : M ≤ X) :
    cntV b M X b.toNat (putF f (M % b).toNat (f (M % b).toNat + m)) = cntV b M X b.toNat f + if X < M + b then m else 0 := by
  unfold cntV
  rw [csum_congr (h := fun q => inV b M b.toNat f q + if q = M then m else 0) (fun i _ => inV_put hb hM (by omega)), csum_addf, csum_one]
  congr 1
  by_cases h : X < M + b
  · rw [if_pos h, if_pos (by omega)]
  · rw [if_neg h, if_neg (by omega)]
theorem csum_nonneg {g : Int → Int} (h : ∀ x, 0 ≤ g x) (q : Int) (n : Nat) : 0 ≤ csum g q n := by
  induction n with
  | zero => exact Int.le_refl _
  | succ n ih => have := h (q + n); simp only [csum]; omega
theorem csum_head (g : Int → Int) (q : Int) (n : Nat) : csum g q (n + 1) = g q + csum g (q + 1) n := by
  rw [Nat.add_comm n 1, csum_add]; simp [csum]
theorem inV_nn {b N : Int} {sn : Nat} {f : Nat → Int} (hb : 1 ≤ b) (hs : sn = 0 ∨ (sn : Int) = b) (hf : ∀ i, i < sn → 0 ≤ f i) (q : Int) : 0 ≤ inV b N sn f q := by
  unfold inV
  split
  · omega
  · have m0 : 0 ≤ q % b := Int.emod_nonneg _ (by omega)
    have m1 : q % b < b := Int.emod_lt_of_pos _ (by omega)
    exact hf _ (by omega)
theorem cnt_nn {b N X : Int} {sn : Nat} {f : Nat → Int} (hb : 1 ≤ b) (hs : sn = 0 ∨ (sn : Int) = b) (hf : ∀ i, i < sn → 0 ≤ f i) : 0 ≤ cntV b N X sn f := csum_nonneg (inV_nn hb hs hf) _ _
/-- What counts falls from bucket to bucket. -/
theorem cnt_step {b N X : Int} {sn : Nat} {f : Nat → Int} (hb : 1 ≤ b) (hX : N ≤ X) : cntV b N X sn f = inV b N sn f (X - b + 1) + cntV b N (X + 1) sn f := by
  obtain ⟨n, hn⟩ : ∃ n, b.toNat = n + 1 := ⟨b.toNat - 1, by omega⟩
  unfold cntV
  rw [hn, csum_head]
  have : csum (inV b N sn f) (X + 1 - b + 1) (n + 1) = csum (inV b N sn f) (X - b + 1 + 1) n := by
    simp only [csum]
    rw [show X + 1 - b + 1 = X - b + 1 + 1 by omega]
    have : inV b N sn f (X - b + 1 + 1 + (n : Int)) = 0 := by unfold inV; rw [if_pos (.inr (.inl (by omega)))]
    rw [this, Int.add_zero]
  rw [this]
theorem cnt_gone {b N X : Int} {sn : Nat} {f : Nat → Int} (hX : N + b ≤ X) : cntV b N X sn f = 0 := by
  unfold cntV
  refine csum_zero (fun i _ => ?_)
  unfold inV; rw [if_pos (.inr (.inl (by omega)))]
theorem cnt_anti {b N X : Int} {sn : Nat} {f : Nat → Int} (hb : 1 ≤ b) (hs : sn = 0 ∨ (sn : Int) = b) (hf : ∀ i, i < sn → 0 ≤ f i) (hX : N ≤ X) (d : Nat) : cntV b N (X + d) sn f ≤ cntV b N X sn f := by
  induction d with
  | zero => simp
  | succ d ih =>
    have h := cnt_step (N := N) (X := X + d) (sn := sn) (f := f) hb (by omega)
    have h2 := inV_nn (N := N) hb hs hf (X + d - b + 1)
    rw [show X + ((d + 1 : Nat) : Int) = X + d + 1 by omega]
    omega
theorem csum_per {g : Int → Int} {b : Nat} (hg : ∀ q, g (q + b) = g q) (q : Int) (d : Nat) : csum g (q + d) b = csum g q b := by
  induction d with
  | zero => simp
  | succ d ih =>
    have h1 := csum_head g (q + d) b
    simp only [csum] at h1
    rw [hg, ih] at h1
    rw [show q + ((d + 1 : Nat) : Int) = q + d + 1 by omega]
    omega
theorem csum_per2 {g : Int → Int} {b : Nat} (hg : ∀ q, g (q + b) = g q) (q : Int) : csum g q b = csum g 0 b := by
  by_cases h : 0 ≤ q
  · have := csum_per hg 0 q.toNat
    rw [show (0 : Int) + (q.toNat : Int) = q by omega] at this
    exact this
  · have := csum_per hg q (-q).toNat
    rw [show q + ((-q).toNat : Int) = 0 by omega] at this
    exact this.symm
/-- All sums together are what counts at a cell's own time. -/
theorem cnt_all {b N : Int} {sn : Nat} {f : Nat → Int} (hb : 1 ≤ b) (hs : (sn : Int) = b) (hz : ∀ i : Nat, i < sn → N < i → f i = 0) : cntV b N N sn f = sumF f sn := by
  have hbn : b.toNat = sn := by omega
  have e1 : cntV b N N sn f = csum (fun q => f (q % b).toNat) (N - b + 1) sn := by
    unfold cntV
    rw [hbn]
    refine csum_congr (fun i hi => ?_)
    unfold inV
    by_cases hq : N - b + 1 + (i : Int) < 0
    · rw [if_pos (.inl hq)]
      by_cases hq2 : N - b + 1 + (i : Int) < - b
      · have m0 : 0 ≤ (N - b + 1 + (i : Int)) % b := Int.emod_nonneg _ (by omega)
        have m1 : (N - b + 1 + (i : Int)) % b < b := Int.emod_lt_of_pos _ (by omega)
        exact (hz _ (by omega) (by omega)).symm
      · have e : (N - b + 1 + (i : Int)) % b = N + 1 + i := by
          have := Int.add_emod_right (N - b + 1 + (i : Int)) b
          rw [← this, show N - b + 1 + (i : Int) + b = N + 1 + i by omega]
          exact Int.emod_eq_of_lt (by omega) (by omega)
        show 0 = f ((N - b + 1 + (i : Int)) % b).toNat
        rw [e]
        exact (hz _ (by omega) (by omega)).symm
    · rw [if_neg (by omega)]
  rw [e1, csum_per2 (g := fun q => f (q % b).toNat) (fun q => by show f ((q + (sn : Int)) % b).toNat = _; rw [hs, Int.add_emod_right])]
  have : ∀ n : Nat, n ≤ sn → csum (fun q => f (q % b).toNat) 0 n = sumF f n := by
    intro n
    induction n with
    | zero => intro _; rfl
    | succ n ih =>
      intro hn
      simp only [csum, sumF]
      rw [ih (by omega), Int.zero_add, Int.emod_eq_of_lt (by omega) (by omega)]
      rfl
  exact this sn (Nat.le_refl _)
theorem MaySums.zero {l b N : Int} {sn : Nat} {f : Nat → Int} (h : MaySums l b N sn f) (i : Nat) (hi : i < sn) (hN : N < i) : f i = 0 := by
  have := h.each i hi
  rcases Int.lt_or_eq_of_le this.1 with h2 | h2
  · have := this.2.2 h2; omega
  · exact h2.symm
theorem cnt_le {l b N X : Int} {sn : Nat} {f : Nat → Int} (hb : 1 ≤ b) (hm : MaySums l b N sn f) (hl : 0 ≤ l) (hX : N ≤ X) : cntV b N X sn f ≤ l := by
  have hnn : ∀ i, i < sn → 0 ≤ f i := fun i hi => (hm.each i hi).1
  obtain ⟨d, rfl⟩ : ∃ d : Nat, X = N + d := ⟨(X - N).toNat, by omega⟩
  refine Int.le_trans (cnt_anti hb hm.len hnn (Int.le_refl _) d) ?_
  rcases hm.len with h0 | h0
  · subst h0
    unfold cntV
    rw [csum_zero (fun i _ => by unfold inV; rw [if_pos (.inr (.inr rfl))])]
    exact hl
  · rw [cnt_all hb h0 hm.zero]
    exact hm.all
theorem sumF_each {f : Nat → Int} {sn : Nat} (h : ∀ i, i < sn → 0 ≤ f i) {i : Nat} (hi : i < sn) : f i ≤ sumF f sn := by
  induction sn with
  | zero => omega
  | succ m ih =>
    have h1 : 0 ≤ sumF f m := by
      have : ∀ k, k ≤ m → 0 ≤ sumF f k := by
        intro k
        induction k with
        | zero => intro _; exact Int.le_refl _
        | succ k ih => intro hk; have := ih (by omega); have := h k (by omega); simp only [sumF]; omega
      exact this m (Nat.le_refl _)
    have h2 := h m (by omega)
    simp only [sumF]
    by_cases e : i = m
    · subst e; omega
    · have := ih (fun j hj => h j (by omega)) (by omega); omega
/-- Sums may be, where no more than the limit counts. -/
theorem may_of_cnt {l b N : Int} {sn : Nat} {f : Nat → Int} (hb : 1 ≤ b) (hs : (sn : Int) = b) (hnn : ∀ i, i < sn → 0 ≤ f i) (hz : ∀ i : Nat, i < sn → N < i → f i = 0) (hc : cntV b N N sn f ≤ l) : MaySums l b N sn f := by
  have e := cnt_all hb hs hz
  refine ⟨.inr hs, fun i hi => ⟨hnn i hi, ?_, fun h => ?_⟩, by omega⟩
  · have := sumF_each hnn hi; omega
  · have := hz i hi
    by_cases c : N < i
    · have := this c; omega
    · omega
theorem turn_zero {b N M : Int} {sn : Nat} {f : Nat → Int} (hb : 1 ≤ b) (j : Nat) (hj : (j : Int) < b) (h : M < j) (h0 : 0 ≤ M) : turnV b N M sn f j = 0 := by
  have e : (M - (j : Int)) % b = M - j + b := by
    rw [← Int.add_emod_right]
    exact Int.emod_eq_of_lt (by omega) (by omega)
  unfold turnV inV
  rw [e, if_pos (.inl (by omega))]
/-- Sums of a ring that is turned may be. -/
theorem turn_nn {b N M : Int} {sn : Nat} {f : Nat → Int} (hb : 1 ≤ b) (hs : sn = 0 ∨ (sn : Int) = b) (hf : ∀ i, i < sn → 0 ≤ f i) (j : Nat) : 0 ≤ turnV b N M sn f j := inV_nn hb hs hf _
end Go.Proofs.Ytbmjpfcnagodaaa
