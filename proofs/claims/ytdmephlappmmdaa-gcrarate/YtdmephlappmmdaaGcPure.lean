/- Plain arithmetic of buckets: when one is empty, how much more it takes, how long a refused ask waits; what asks let in over a time. -/
import Derived.Test.YtdmephlappmmdaaGc6
namespace Go.Proofs.Ytdmephlappmmdaa
open Go.ChangeShapes Go.WideShapes Go.ChangeAt Go.RowKit

/-- A quotient, rounded up, is the least that is enough. -/
theorem up_enough {n l : Int} (hl : 1 ≤ l) : n ≤ upS n l * l := by
  unfold upS
  rw [if_neg (by omega)]
  have h1 : l * (n / l) + n % l = n := Int.mul_ediv_add_emod n l
  have h3 : n % l < l := Int.emod_lt_of_pos _ (by omega)
  split
  · rw [Int.mul_comm]; omega
  · rw [Int.add_mul, Int.mul_comm]; omega
theorem up_least {n l : Int} (hl : 1 ≤ l) (_hn : 0 < n) : (upS n l - 1) * l < n := by
  unfold upS
  rw [if_neg (by omega)]
  have h1 : l * (n / l) + n % l = n := Int.mul_ediv_add_emod n l
  have h2 : 0 ≤ n % l := Int.emod_nonneg _ (by omega)
  split
  · rw [Int.sub_mul, Int.mul_comm]; omega
  · rename_i h
    rw [Int.add_sub_cancel, Int.mul_comm]; omega
theorem up_pos {n l : Int} (hl : 1 ≤ l) (hn : 0 < n) : 1 ≤ upS n l := by
  rcases Int.lt_or_le (upS n l) 1 with h | h
  · exfalso
    have h1 := up_enough (n := n) hl
    have : upS n l * l ≤ 0 * l := Int.mul_le_mul_of_nonneg_right (by omega) (by omega)
    omega
  · exact h
theorem up_nn {n l : Int} (hl : 1 ≤ l) (hn : 0 ≤ n) : 0 ≤ upS n l := by
  rcases Int.lt_or_eq_of_le hn with h | h
  · have := up_pos hl h; omega
  · rw [← h]; unfold upS; split <;> simp
/-- From its end on nothing is in a bucket. -/
theorem lev_end {l a n t : Int} (hl : 1 ≤ l) (h : a + upS n l ≤ t) : levG l a n t = 0 := by
  have h1 := up_enough (n := n) hl
  have h2 : upS n l * l ≤ (t - a) * l := Int.mul_le_mul_of_nonneg_right (by omega) (by omega)
  unfold levG subS
  split <;> omega
/-- A tick ahead of its end something is. -/
theorem lev_ahead {l a n : Int} (hl : 1 ≤ l) (hn : 0 < n) : 0 < levG l a n (a + upS n l - 1) := by
  have h1 := up_least hl hn
  have e : a + upS n l - 1 - a = upS n l - 1 := by omega
  unfold levG subS
  rw [e]
  split <;> omega
theorem tmax_hi {t a : Int} (h : a ≤ t) : tmax t a = t := by unfold tmax; split <;> omega
/-- From its end on a cell is as a new one. -/
theorem ask_end {l v a n t m : Int} (hl : 1 ≤ l) (hn : 0 ≤ n) (h : a + upS n l ≤ t) : askHas l v a n t m = askHas l v t 0 t m ∧ askAl l v a n t m = askAl l v t 0 t m ∧ askRt l v a n t m = askRt l v t 0 t m ∧ tmax t a = tmax t t := by
  have h0 := up_nn hl hn
  have e1 : tmax t a = t := tmax_hi (by omega)
  have e2 : tmax t t = t := tmax_hi (by omega)
  have l1 : levG l a n t = 0 := lev_end hl h
  have l2 : levG l t 0 t = 0 := by unfold levG subS; simp
  unfold askHas askAl askRt
  rw [e1, e2, l1, l2]
  exact ⟨rfl, rfl, rfl, rfl⟩

/-- How much more could be let in, and no more. -/
theorem rem_enough {M H v : Int} (hv : 1 ≤ v) : H + (M - H) / v * v ≤ M := by
  have h1 : v * ((M - H) / v) + (M - H) % v = M - H := Int.mul_ediv_add_emod _ _
  have h2 : 0 ≤ (M - H) % v := Int.emod_nonneg _ (by omega)
  rw [Int.mul_comm ((M - H) / v) v]; omega
theorem rem_most {M H v : Int} (hv : 1 ≤ v) : M < H + ((M - H) / v + 1) * v := by
  have h1 : v * ((M - H) / v) + (M - H) % v = M - H := Int.mul_ediv_add_emod _ _
  have h3 : (M - H) % v < v := Int.emod_lt_of_pos _ (by omega)
  rw [Int.add_mul, Int.mul_comm ((M - H) / v) v]; omega
theorem rem_bd {l v H : Int} (hv : 1 ≤ v) (h0 : 0 ≤ H) (h1 : H ≤ l * v) : 0 ≤ (l * v - H) / v ∧ (l * v - H) / v ≤ l := by
  refine ⟨Int.ediv_nonneg (by omega) (by omega), ?_⟩
  have := Int.ediv_le_ediv (c := v) (by omega) (show l * v - H ≤ l * v by omega)
  rw [Int.mul_ediv_cancel _ (by omega)] at this
  exact this
/-- So many ticks later it would be let in, and not one sooner. -/
theorem retry_then {l v T R q : Int} (hl : 1 ≤ l) (hq : q ≤ l * v) : levG l T R (T + upS (R + q - l * v) l) + q ≤ l * v := by
  have h1 := up_enough (n := R + q - l * v) hl
  have e : T + upS (R + q - l * v) l - T = upS (R + q - l * v) l := by omega
  unfold levG subS
  rw [e]
  split <;> omega
theorem retry_ahead {l v T R q : Int} (hl : 1 ≤ l) (hq : q ≤ l * v) (ho : l * v < R + q) : l * v < levG l T R (T + upS (R + q - l * v) l - 1) + q := by
  have h1 := up_least (n := R + q - l * v) hl (by omega)
  have e : T + upS (R + q - l * v) l - 1 - T = upS (R + q - l * v) l - 1 := by omega
  unfold levG subS
  rw [e]
  split <;> omega

/-- What all asks from the k-th one on have let in, times v: never more than what is in the bucket, and what has run out since. -/
theorem rate_step {l v a n t m x tk : Int} (ht : a ≤ t) (h : x ≤ n + l * (a - tk)) :
    x + (if askAl l v a n t m = true then m else 0) * v ≤ askHas l v a n t m + l * (t - tk) := by
  have e1 : tmax t a = t := tmax_hi ht
  have q : l * (t - tk) = (t - a) * l + l * (a - tk) := by rw [Int.mul_comm (t - a) l, ← Int.mul_add]; congr 1; omega
  have hR : n ≤ levG l a n t + (t - a) * l := by unfold levG subS; split <;> omega
  unfold askAl askHas
  rw [e1]
  by_cases p : levG l a n t + m * v ≤ l * v
  · simp only [p, decide_true, if_true]; omega
  · simp only [p, decide_false, if_false]; simp; omega
theorem rate_new {l v a n t m : Int} (hl : 0 ≤ l) (ht : a ≤ t) : (if askAl l v a n t m = true then m else 0) * v ≤ askHas l v a n t m := by
  have e1 : tmax t a = t := tmax_hi ht
  have hR : 0 ≤ levG l a n t := by
    have := Int.mul_nonneg (show 0 ≤ t - a by omega) hl
    unfold levG subS; split <;> omega
  unfold askAl askHas
  rw [e1]
  by_cases p : levG l a n t + m * v ≤ l * v
  · simp only [p, decide_true, if_true]; omega
  · simp only [p, decide_false, if_false]; simp; omega
end Go.Proofs.Ytdmephlappmmdaa
