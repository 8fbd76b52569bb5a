/- Plain arithmetic of hits: what counts, how long one waits, and what an ask leaves. -/
import Derived.Test.YtgdcgilhaedbmaaEx10
-- prune
namespace Go.Proofs.Ytgdcgilhaedbmaa
open Go.ChangeShapes Go.WideShapes Go.ChangeAt Go.RowKit
set_option linter.unusedVariables false

theorem sumF_congr {f g : Nat → Int} {n : Nat} (e : ∀ i, i < n → f i = g i) : sumF f n = sumF g n := by
  induction n with
  | zero => rfl
  | succ n ih => simp only [sumF]; rw [ih (fun i hi => e i (by omega)), e n (by omega)]
theorem sumF_sh (g : Nat → Int) (J : Nat) : ∀ r, sumF (fun i => if J ≤ i then g i else 0) (J + r) = sumF (sh J g) r := by
  have h0 : ∀ q, q ≤ J → sumF (fun i => if J ≤ i then g i else 0) q = 0 := by
    intro q
    induction q with
    | zero => intro _; rfl
    | succ q ih => intro hq; simp only [sumF]; rw [ih (by omega), if_neg (by omega)]; rfl
  intro r
  induction r with
  | zero => exact h0 J (Nat.le_refl _)
  | succ r ih => rw [show J + (r + 1) = (J + r) + 1 from rfl]; simp only [sumF]; rw [ih, if_pos (by omega)]; rfl
theorem sumF_mono {f : Nat → Int} {n : Nat} (h : ∀ i, i < n → 0 ≤ f i) : ∀ i, i ≤ n → sumF f i ≤ sumF f n := by
  induction n with
  | zero => intro i hi; rw [show i = 0 by omega]; exact Int.le_refl _
  | succ n ih =>
    intro i hi
    by_cases e : i = n + 1
    · rw [e]; exact Int.le_refl _
    · have := ih (fun j hj => h j (by omega)) i (by omega)
      have := h n (by omega)
      simp only [sumF]; omega
theorem sumF_le {f g : Nat → Int} {n : Nat} (h : ∀ i, i < n → f i ≤ g i) : sumF f n ≤ sumF g n := by
  induction n with
  | zero => exact Int.le_refl _
  | succ n ih => have := ih (fun i hi => h i (by omega)); have := h n (by omega); simp only [sumF]; omega
theorem MayHits.nn {l v a : Int} {n : Nat} {f g : Nat → Int} (h : MayHits l v a n f g) (i : Nat) (hi : i < n) : 0 ≤ g i := by have := h.each i hi; omega
theorem MayHits.lt {l v a : Int} {n : Nat} {f g : Nat → Int} (h : MayHits l v a n f g) {i j : Nat} (hij : i < j) (hj : j < n) : f i < f j := by
  obtain ⟨d, rfl⟩ : ∃ d, j = i + 1 + d := ⟨j - i - 1, by omega⟩
  clear hij
  induction d with
  | zero => exact h.rise i hj
  | succ d ih =>
    have h1 := ih (by omega)
    have h2 := h.rise (i + 1 + d) (by omega)
    rw [show i + 1 + (d + 1) = i + 1 + d + 1 from rfl]; omega
theorem MayHits.len {l v a : Int} {n : Nat} {f g : Nat → Int} (h : MayHits l v a n f g) : (n : Int) ≤ l := by
  have h1 : (n : Int) ≤ sumF g n := by
    have h2 : ∀ i, i < n → 1 ≤ g i := fun i hi => by have := h.each i hi; omega
    clear h
    induction n with
    | zero => simp [sumF]
    | succ n ih => have := ih (fun i hi => h2 i (by omega)); have := h2 n (by omega); simp only [sumF]; omega
  have := h.all
  omega
theorem may_of_sum {l v T : Int} {n : Nat} {f g : Nat → Int} (h1 : ∀ i, i < n → 0 ≤ f i ∧ T - v < f i ∧ f i ≤ T ∧ 1 ≤ g i) (h2 : ∀ i, i + 1 < n → f i < f (i + 1)) (h3 : sumF g n ≤ l) : MayHits l v T n f g := by
  refine ⟨fun i hi => ?_, h2, h3⟩
  obtain ⟨q1, q2, q3, q4⟩ := h1 i hi
  refine ⟨q1, q2, q3, q4, ?_⟩
  have nn : ∀ j, j < n → 0 ≤ g j := fun j hj => by have := h1 j hj; omega
  have m1 := sumF_mono nn (i + 1) (by omega)
  have m0 := sumF_mono (n := i) (fun j hj => nn j (by omega)) 0 (Nat.zero_le _)
  simp only [sumF] at m1 m0
  omega
theorem first_le (v T : Int) (f : Nat → Int) (n : Nat) : firstE v T f 0 n ≤ n := by have := (firstE_spec v T f n 0).2.1; omega
theorem first_iff {l v a T : Int} {n : Nat} {f g : Nat → Int} (h : MayHits l v a n f g) (i : Nat) (hi : i < n) : T - v < f i ↔ firstE v T f 0 n ≤ i := by
  obtain ⟨_, h2, h3, h4⟩ := firstE_spec v T f n 0
  generalize firstE v T f 0 n = J at *
  constructor
  · intro q
    rcases Nat.lt_or_ge i J with c | c
    · have := h3 i (Nat.zero_le _) c; omega
    · exact c
  · intro q
    have h5 := h4 (by omega)
    rcases Nat.lt_or_ge J i with c | c
    · have := h.lt c hi; omega
    · rw [show i = J by omega]; omega
theorem cnt_sh {l v a T : Int} {n : Nat} {f g : Nat → Int} (h : MayHits l v a n f g) : cntE v f g n T = sumF (sh (firstE v T f 0 n) g) (n - firstE v T f 0 n) := by
  have hl := first_le v T f n
  have hi := fun i hi => first_iff (T := T) h i hi
  generalize firstE v T f 0 n = J at *
  unfold cntE
  rw [← sumF_sh g J (n - J), show J + (n - J) = n by omega]
  refine sumF_congr (fun i hi' => ?_)
  by_cases c : J ≤ i
  · rw [if_pos ((hi i hi').2 c), if_pos c]
  · rw [if_neg (fun q => c ((hi i hi').1 q)), if_neg c]
theorem may_sh {l v a T : Int} {n : Nat} {f g : Nat → Int} (h : MayHits l v a n f g) (ha : a ≤ T) : MayHits l v T (n - firstE v T f 0 n) (sh (firstE v T f 0 n) f) (sh (firstE v T f 0 n) g) := by
  have hl := first_le v T f n
  have hi := fun i hi => first_iff (T := T) h i hi
  have hc : sumF (sh (firstE v T f 0 n) g) (n - firstE v T f 0 n) ≤ l := by
    rw [← cnt_sh (T := T) h]
    refine Int.le_trans (sumF_le (g := g) (fun i hi => ?_)) h.all
    have := h.nn i hi
    split <;> omega
  generalize firstE v T f 0 n = J at *
  refine may_of_sum (fun i hi' => ?_) (fun i hi' => ?_) hc
  · have := h.each (J + i) (by omega)
    have := (hi (J + i) (by omega)).2 (by omega)
    unfold sh
    omega
  · exact h.rise (J + i) (by omega)
theorem cnt_all {l v a : Int} {n : Nat} {f g : Nat → Int} (h : MayHits l v a n f g) : cntE v f g n a = sumF g n :=
  sumF_congr (fun i hi => if_pos (h.each i hi).2.1)
theorem cnt_anti {v t t' : Int} {n : Nat} {f g : Nat → Int} (h : ∀ i, i < n → 0 ≤ g i) (ht : t ≤ t') : cntE v f g n t' ≤ cntE v f g n t :=
  sumF_le (fun i hi => by have := h i hi; split <;> split <;> omega)
theorem cnt_nn {v t : Int} {n : Nat} {f g : Nat → Int} (h : ∀ i, i < n → 0 ≤ g i) : 0 ≤ cntE v f g n t := by
  have := sumF_mono (f := fun i => if t - v < f i then g i else 0) (n := n) (fun i hi => by have := h i hi; show 0 ≤ (if t - v < f i then g i else 0); split <;> omega) 0 (Nat.zero_le _)
  exact this
theorem cnt_from {l v a t : Int} {n : Nat} {f g : Nat → Int} (h : MayHits l v a n f g) (J : Nat) (hJ : J ≤ n) (hi : ∀ i, i < n → (t - v < f i ↔ J ≤ i)) : cntE v f g n t = sumF g n - sumF g J := by
  have h1 : ∀ r, J + r ≤ n → sumF (fun i => if t - v < f i then g i else 0) (J + r) = sumF g (J + r) - sumF g J := by
    intro r
    induction r with
    | zero =>
      intro _
      have : ∀ q, q ≤ J → sumF (fun i => if t - v < f i then g i else 0) q = 0 := by
        intro q
        induction q with
        | zero => intro _; rfl
        | succ q ih => intro hq; simp only [sumF]; rw [ih (by omega), if_neg (fun c => by have := (hi q (by omega)).1 c; omega)]; rfl
      rw [Nat.add_zero, this J (Nat.le_refl _)]; omega
    | succ r ih =>
      intro hr
      rw [show J + (r + 1) = J + r + 1 from rfl]
      simp only [sumF]
      rw [ih (by omega), if_pos ((hi (J + r) (by omega)).2 (by omega))]
      omega
  have := h1 (n - J) (by omega)
  rw [show J + (n - J) = n by omega] at this
  exact this
theorem cnt_at {l v a : Int} {n : Nat} {f g : Nat → Int} (h : MayHits l v a n f g) (i : Nat) (hi : i < n) : cntE v f g n (f i + v) = sumF g n - sumF g (i + 1) := by
  refine cnt_from h (i + 1) (by omega) (fun j hj => ⟨fun q => ?_, fun q => ?_⟩)
  · rcases Nat.lt_or_ge i j with c | c
    · exact c
    · rcases Nat.lt_or_ge j i with d | d
      · have := h.lt d hi; omega
      · rw [show j = i by omega] at q; omega
  · have := h.lt (show i < j by omega) hj; omega
theorem cnt_pre {l v a : Int} {n : Nat} {f g : Nat → Int} (h : MayHits l v a n f g) (i : Nat) (hi : i < n) : cntE v f g n (f i + v - 1) = sumF g n - sumF g i := by
  refine cnt_from h i (by omega) (fun j hj => ⟨fun q => ?_, fun q => ?_⟩)
  · rcases Nat.lt_or_ge j i with d | d
    · have := h.lt d hi; omega
    · exact d
  · rcases Nat.lt_or_ge i j with c | c
    · have := h.lt c hj; omega
    · rw [show j = i by omega]; omega
/-- The document's wait and the program's fits. -/
theorem fits_from {l v T most : Int} {n : Nat} {f g : Nat → Int} (h : MayHits l v T n f g) (h0 : 0 ≤ most) : ∀ r q, q + r = n → most < sumF g n - sumF g q →
    fstE T v f (kE g (sumF g n) most q r) = T + wloopE v f g n T most q r ∧ 0 < wloopE v f g n T most q r ∧ wloopE v f g n T most q r ≤ v ∧ cntE v f g n (T + wloopE v f g n T most q r) ≤ most ∧ most < cntE v f g n (T + wloopE v f g n T most q r - 1) := by
  intro r
  induction r with
  | zero => intro q hq hm; rw [show q = n by omega] at hm; omega
  | succ r ih =>
    intro q hq hm
    have hk : kE g (sumF g n) most q (r + 1) = kE g (sumF g n) most (q + 1) r := by rw [kE, if_neg (by omega)]
    have hc := cnt_at h q (by omega)
    have hb := h.each q (by omega)
    have hp := cnt_pre h q (by omega)
    by_cases c : sumF g n - sumF g (q + 1) ≤ most
    · have hw : wloopE v f g n T most q (r + 1) = f q + v - T := by rw [wloopE, if_pos ⟨by rw [hc]; exact c, by omega⟩]
      have hk2 : kE g (sumF g n) most (q + 1) r = q + 1 := by
        cases r with
        | zero => rfl
        | succ r => rw [kE, if_pos c]
      rw [hk, hk2, hw, show T + (f q + v - T) = f q + v by omega, hc, hp]
      refine ⟨by unfold fstE; rw [if_neg (by omega)]; rfl, by omega, by omega, c, hm⟩
    · have hw : wloopE v f g n T most q (r + 1) = wloopE v f g n T most (q + 1) r := by rw [wloopE, if_neg (fun q' => c (by rw [← hc]; exact q'.1))]
      rw [hk, hw]
      exact ih (q + 1) (by omega) (by omega)
theorem wait_spec {l v T most : Int} {n : Nat} {f g : Nat → Int} (h : MayHits l v T n f g) (h0 : 0 ≤ most) (hv : 1 ≤ v) :
    fstE T v f (kE g (sumF g n) most 0 n) = T + waitE v f g n T most ∧ 0 ≤ waitE v f g n T most ∧ waitE v f g n T most ≤ v ∧ cntE v f g n (T + waitE v f g n T most) ≤ most ∧ (0 < waitE v f g n T most → most < cntE v f g n (T + waitE v f g n T most - 1)) ∧ (waitE v f g n T most = 0 ↔ sumF g n ≤ most) := by
  have hc := cnt_all h
  by_cases c : sumF g n ≤ most
  · have hw : waitE v f g n T most = 0 := by unfold waitE; rw [if_pos (by rw [hc]; exact c)]
    have hk : kE g (sumF g n) most 0 n = 0 := by
      cases n with
      | zero => rfl
      | succ n => rw [kE, if_pos (by simp only [sumF] at c ⊢; omega)]
    rw [hw, hk, Int.add_zero, hc]
    exact ⟨rfl, Int.le_refl _, by omega, c, fun q => by omega, fun _ => c, fun _ => rfl⟩
  · have hw : waitE v f g n T most = wloopE v f g n T most 0 n := by unfold waitE; rw [if_neg (by rw [hc]; exact c)]
    obtain ⟨q1, q2, q3, q4, q5⟩ := fits_from h h0 n 0 (by omega) (by simp only [sumF] at c ⊢; omega)
    rw [hw]
    exact ⟨q1, by omega, q3, q4, fun _ => q5, fun e => by omega, fun e => absurd e c⟩
theorem sumF_last {g : Nat → Int} {L : Nat} (hL : 1 ≤ L) (m : Int) : sumF (putF g (L - 1) (g (L - 1) + m)) L = sumF g L + m := by
  obtain ⟨q, rfl⟩ : ∃ q, L = q + 1 := ⟨L - 1, by omega⟩
  simp only [sumF]
  rw [sumF_congr (f := putF g (q + 1 - 1) (g (q + 1 - 1) + m)) (g := g) (n := q) (fun i hi => by unfold putF; rw [if_neg (by omega)])]
  unfold putF
  rw [if_pos (by omega), show q + 1 - 1 = q from rfl]
  omega
theorem sumF_new {g : Nat → Int} {L : Nat} (m : Int) : sumF (putF g L m) (L + 1) = sumF g L + m := by
  simp only [sumF]
  rw [sumF_congr (f := putF g L m) (g := g) (n := L) (fun i hi => by unfold putF; rw [if_neg (by omega)])]
  unfold putF
  rw [if_pos rfl]
theorem may_last {l v T m : Int} {L : Nat} {f g : Nat → Int} (h : MayHits l v T L f g) (hL : 1 ≤ L) (m1 : 0 ≤ m) (hs : sumF g L + m ≤ l) : MayHits l v T L f (putF g (L - 1) (g (L - 1) + m)) := by
  refine may_of_sum (fun i hi => ?_) h.rise (by rw [sumF_last hL]; exact hs)
  have := h.each i hi
  have := h.each (L - 1) (by omega)
  refine ⟨by omega, by omega, by omega, ?_⟩
  unfold putF; split <;> omega
theorem may_new {l v T m : Int} {L : Nat} {f g : Nat → Int} (h : MayHits l v T L f g) (hne : L = 0 ∨ f (L - 1) ≠ T) (m1 : 1 ≤ m) (T0 : 0 ≤ T) (v1 : 1 ≤ v) (hs : sumF g L + m ≤ l) : MayHits l v T (L + 1) (putF f L T) (putF g L m) := by
  refine may_of_sum (fun i hi => ?_) (fun i hi => ?_) (by rw [sumF_new]; exact hs)
  · unfold putF
    by_cases e : i = L
    · rw [if_pos e, if_pos e]; omega
    · rw [if_neg e, if_neg e]
      have := h.each i (by omega)
      omega
  · unfold putF
    by_cases e : i + 1 = L
    · rw [if_neg (by omega), if_pos e]
      have := h.each i (by omega)
      have := hne.resolve_left (by omega)
      rw [show L - 1 = i by omega] at this
      omega
    · rw [if_neg (by omega), if_neg (by omega)]
      exact h.rise i (by omega)
end Go.Proofs.Ytgdcgilhaedbmaa
