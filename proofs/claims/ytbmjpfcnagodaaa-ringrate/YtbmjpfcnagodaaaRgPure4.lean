/- A ring that is turned bucket by bucket: plain arithmetic. -/
import Derived.Test.YtbmjpfcnagodaaaRgPure3
namespace Go.Proofs.Ytbmjpfcnagodaaa
set_option linter.unusedVariables false

/-- The sums behind these buckets. -/
def turnL {sn : Nat} (q sl b N : Int) (f : Nat → Int) (t : Int) (pre : List (Ix sn)) : Nat → Int :=
  pre.foldl (fun g x => if t < goesI q sl (x.1 + 1) then putF g ((N + 1 + x.1) % b).toNat (valV b N f x.1) else g) (fun _ => 0)
theorem turnL_snoc {sn : Nat} (q sl b N : Int) (f : Nat → Int) (t : Int) (pre : List (Ix sn)) (x : Ix sn) : turnL q sl b N f t (pre ++ [x]) = if t < goesI q sl (x.1 + 1) then putF (turnL q sl b N f t pre) ((N + 1 + x.1) % b).toNat (valV b N f x.1) else turnL q sl b N f t pre := by
  unfold turnL; rw [List.foldl_append]; rfl
theorem mod_uni {b x y : Int} (hb : 1 ≤ b) (e : x % b = y % b) (h1 : x - y < b) (h2 : y - x < b) : x = y := by
  have h := Int.emod_emod_of_dvd (x - y) (Int.dvd_refl b)
  have : (x - y) % b = 0 := by rw [Int.sub_emod, e, Int.sub_self, Int.zero_emod]
  obtain ⟨c, hc⟩ := Int.dvd_of_emod_eq_zero this
  have : c = 0 := by
    rcases Int.lt_trichotomy c 0 with h | h | h
    · have := Int.mul_le_mul_of_nonneg_left (show c ≤ -1 by omega) (show 0 ≤ b by omega)
      omega
    · exact h
    · have := Int.mul_le_mul_of_nonneg_left (show 1 ≤ c by omega) (show 0 ≤ b by omega)
      omega
  subst this
  omega
theorem turnL_up {l b N sl t : Int} {sn : Nat} {f : Nat → Int} (hb : 1 ≤ b) (hs : (sn : Int) = b) (j : Nat) (hj : j < sn) (i : Nat) (hi : i ≤ sn) :
    turnL (sn := sn) (N * sl) sl b N f t (upL sn i) j = if ((j : Int) - N - 1) % b < i ∧ t < (N + 1 + ((j : Int) - N - 1) % b) * sl then f j else 0 := by
  have r0 : 0 ≤ ((j : Int) - N - 1) % b := Int.emod_nonneg _ (by omega)
  have r1 : ((j : Int) - N - 1) % b < b := Int.emod_lt_of_pos _ (by omega)
  induction i with
  | zero =>
    rw [if_neg (by omega)]; rfl
  | succ i ih =>
    rw [upL_succ (show i < sn by omega), turnL_snoc]
    have p0 : 0 ≤ (N + 1 + (i : Int)) % b := Int.emod_nonneg _ (by omega)
    have p1 : (N + 1 + (i : Int)) % b < b := Int.emod_lt_of_pos _ (by omega)
    have iff : ((N + 1 + (i : Int)) % b).toNat = j ↔ ((j : Int) - N - 1) % b = i := by
      constructor
      · intro e
        have e2 : (j : Int) = (N + 1 + (i : Int)) % b := by omega
        rw [e2, show (N + 1 + (i : Int)) % b - N - 1 = (N + 1 + (i : Int)) % b - (N + 1) by omega, Int.sub_emod, Int.emod_emod_of_dvd _ (Int.dvd_refl b), ← Int.sub_emod, show N + 1 + (i : Int) - (N + 1) = i by omega]
        exact Int.emod_eq_of_lt (by omega) (by omega)
      · intro e
        have : (N + 1 + (i : Int)) % b = j := by
          rw [← e, Int.add_emod, Int.emod_emod_of_dvd _ (Int.dvd_refl b), ← Int.add_emod, show N + 1 + ((j : Int) - N - 1) = j by omega]
          exact Int.emod_eq_of_lt (by omega) (by omega)
        omega
    rw [goesI_eq, show N + ((i + 1 : Nat) : Int) = N + 1 + i by omega]
    by_cases e : ((j : Int) - N - 1) % b = i
    · by_cases c : t < (N + 1 + (i : Int)) * sl
      · rw [if_pos c, putF, if_pos (iff.2 e).symm, if_pos ⟨by omega, by rw [e]; exact c⟩]
        unfold valV
        rw [iff.2 e]
      · rw [if_neg c, ih (by omega), if_neg (by omega), if_neg (by rw [e]; exact fun h => c h.2)]
    · have h2 : (if t < (N + 1 + (i : Int)) * sl then putF (turnL (sn := sn) (N * sl) sl b N f t (upL sn i)) ((N + 1 + (i : Int)) % b).toNat (valV b N f i) else turnL (sn := sn) (N * sl) sl b N f t (upL sn i)) j = turnL (sn := sn) (N * sl) sl b N f t (upL sn i) j := by
        split
        · rw [putF, if_neg (fun h => e (iff.1 h.symm))]
        · rfl
      rw [h2, ih (by omega)]
      by_cases c : ((j : Int) - N - 1) % b < i ∧ t < (N + 1 + ((j : Int) - N - 1) % b) * sl
      · rw [if_pos c, if_pos ⟨by omega, c.2⟩]
      · rw [if_neg c, if_neg (by omega)]
theorem turnL_all {l b N sl t : Int} {sn : Nat} {f : Nat → Int} (hs : 1 ≤ sl) (hb : 1 ≤ b) (hN : 0 ≤ N) (hT : N ≤ t / sl) (hm : MaySums l b N sn f) (j : Nat) (hj : (j : Int) < b) :
    turnL (sn := sn) (N * sl) sl b N f t (upL sn sn) j = turnV b N (t / sl) sn f j := by
  obtain ⟨M, hM⟩ : ∃ M, t / sl = M := ⟨_, rfl⟩
  rcases hm.len with h0 | h0
  · subst h0
    show (0 : Int) = _
    unfold turnV inV
    rw [if_pos (.inr (.inr rfl))]
  · rw [turnL_up (l := l) hb h0 j (by omega) sn (Nat.le_refl _)]
    have r0 : 0 ≤ ((j : Int) - N - 1) % b := Int.emod_nonneg _ (by omega)
    have r1 : ((j : Int) - N - 1) % b < b := Int.emod_lt_of_pos _ (by omega)
    have u0 : 0 ≤ (M - (j : Int)) % b := Int.emod_nonneg _ (by omega)
    have u1 : (M - (j : Int)) % b < b := Int.emod_lt_of_pos _ (by omega)
    have rj : (N + 1 + ((j : Int) - N - 1) % b - b) % b = j := by
      rw [Int.sub_emod_right, Int.add_emod, Int.emod_emod_of_dvd _ (Int.dvd_refl b), ← Int.add_emod, show N + 1 + ((j : Int) - N - 1) = j by omega]
      exact Int.emod_eq_of_lt (by omega) (by omega)
    have uj : (M - (M - (j : Int)) % b) % b = j := by
      rw [Int.sub_emod, Int.emod_emod_of_dvd _ (Int.dvd_refl b), ← Int.sub_emod, show M - (M - (j : Int)) = j by omega]
      exact Int.emod_eq_of_lt (by omega) (by omega)
    unfold turnV
    rw [hM]
    generalize ((j : Int) - N - 1) % b = r at *
    generalize (M - (j : Int)) % b = u at *
    have hlt : t < (N + 1 + r) * sl ↔ M < N + 1 + r := by rw [lt_goes hs, hM]
    by_cases c : M < N + 1 + r
    · rw [if_pos ⟨by omega, hlt.2 c⟩]
      have e : M - u = N + 1 + r - b := mod_uni hb (uj.trans rj.symm) (by omega) (by omega)
      rw [e]
      unfold inV
      by_cases hq : N + 1 + r - b < 0
      · rw [if_pos (.inl hq)]
        have : (j : Int) = N + 1 + r := by
          have := Int.add_emod_right (N + 1 + r - b) b
          rw [rj, show N + 1 + r - b + b = N + 1 + r by omega, Int.emod_eq_of_lt (by omega) (by omega)] at this
          omega
        exact hm.zero j (by omega) (by omega)
      · rw [if_neg (by omega), rj]; rfl
    · rw [if_neg (fun h => c (hlt.1 h.2))]
      unfold inV
      have key : N < M - u := by
        rcases Int.lt_or_le N (M - u) with h | h
        · exact h
        · have e : M - u = N + 1 + r - b := mod_uni hb (uj.trans rj.symm) (by omega) (by omega)
          omega
      rw [if_pos (.inr (.inl key))]
end Go.Proofs.Ytbmjpfcnagodaaa
