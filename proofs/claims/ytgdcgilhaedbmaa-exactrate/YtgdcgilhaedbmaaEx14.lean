/- Rows of hits that read alike tell alike; a second ask at the same time. -/
import Derived.Test.YtgdcgilhaedbmaaEx13
-- prune
namespace Go.Proofs.Ytgdcgilhaedbmaa
open Go.ChangeShapes Go.WideShapes Go.ChangeAt Go.RowKit
set_option linter.unusedVariables false

theorem len_sum {l v a : Int} {n : Nat} {f g : Nat → Int} (h : MayHits l v a n f g) : (n : Int) ≤ sumF g n := by
  have h2 : ∀ i, i < n → 1 ≤ g i := fun i hi => by have := h.each i hi; omega
  clear h
  induction n with
  | zero => simp [sumF]
  | succ n ih => have := ih (fun i hi => h2 i (by omega)); have := h2 n (by omega); simp only [sumF]; omega
theorem cntE_congr {v t : Int} {n : Nat} {f g f' g' : Nat → Int} (e : ∀ i, i < n → f i = f' i ∧ g i = g' i) : cntE v f g n t = cntE v f' g' n t :=
  sumF_congr (fun i hi => by rw [(e i hi).1, (e i hi).2])
theorem wloopE_congr {v t most : Int} {n : Nat} {f g f' g' : Nat → Int} (e : ∀ i, i < n → f i = f' i ∧ g i = g' i) : ∀ r q, q + r ≤ n → wloopE v f g n t most q r = wloopE v f' g' n t most q r := by
  intro r
  induction r with
  | zero => intro q _; rfl
  | succ r ih =>
    intro q hq
    rw [wloopE, wloopE, ih (q + 1) (by omega), (e q (by omega)).1, cntE_congr e]
theorem waitE_congr {v t most : Int} {n : Nat} {f g f' g' : Nat → Int} (e : ∀ i, i < n → f i = f' i ∧ g i = g' i) : waitE v f g n t most = waitE v f' g' n t most := by
  unfold waitE
  rw [cntE_congr e, wloopE_congr e n 0 (by omega)]
/-- Rows that read alike at the time of an ask. -/
structure Alike (l v a t m : Int) (n : Nat) (f g : Nat → Int) (a' : Int) (n' : Nat) (f' g' : Nat → Int) : Prop where
  al : eAl l v a t m n f g = eAl l v a' t m n' f' g'
  nn : eN l v a t m n f g = eN l v a' t m n' f' g'
  fg : ∀ i, i < eN l v a t m n f g → eF l v a t m n f g i = eF l v a' t m n' f' g' i ∧ eG l v a t m n f g i = eG l v a' t m n' f' g' i
  rm : eRm l v a t m n f g = eRm l v a' t m n' f' g'
  rt : eRt l v a t m n f g = eRt l v a' t m n' f' g'
  rs : eRs l v a t m n f g = eRs l v a' t m n' f' g'
theorem ask_alike {l v a t m : Int} {n : Nat} {f g : Nat → Int} {a' : Int} {n' : Nat} {f' g' : Nat → Int} (hT : tmax t a = tmax t a') (hL : eL v a t n f = eL v a' t n' f')
    (e : ∀ i, i < eL v a t n f → eF0 v a t n f i = eF0 v a' t n' f' i ∧ eG0 v a t n f g i = eG0 v a' t n' f' g' i) : Alike l v a t m n f g a' n' f' g' := by
  have hal : eAl l v a t m n f g = eAl l v a' t m n' f' g' := by unfold eAl; rw [← hL, sumF_congr (fun i hi => (e i hi).2)]
  have hsm : eSame v a t n f = eSame v a' t n' f' := by
    unfold eSame
    rw [← hL, ← hT]
    by_cases c : 1 ≤ eL v a t n f
    · rw [(e (eL v a t n f - 1) (by omega)).1]
    · rw [decide_eq_false (fun q => c q.1), decide_eq_false (fun q => c q.1)]
  have hn : eN l v a t m n f g = eN l v a' t m n' f' g' := by unfold eN; rw [hal, hsm, hL]
  have hfg : ∀ i, i < eN l v a t m n f g → eF l v a t m n f g i = eF l v a' t m n' f' g' i ∧ eG l v a t m n f g i = eG l v a' t m n' f' g' i := by
    intro i hi
    unfold eN at hi
    unfold eF eG
    rw [← hal, ← hsm, ← hL, ← hT]
    by_cases c : eAl l v a t m n f g = true
    · rw [if_pos c] at hi
      rw [if_pos c, if_pos c, if_pos c, if_pos c]
      by_cases d : eSame v a t n f = true
      · rw [if_pos d] at hi
        rw [if_pos d, if_pos d, if_pos d, if_pos d]
        refine ⟨(e i hi).1, ?_⟩
        unfold putF
        split
        · rw [(e _ (by omega)).2]
        · exact (e i hi).2
      · rw [if_neg d] at hi
        rw [if_neg d, if_neg d, if_neg d, if_neg d]
        unfold putF
        by_cases c : i = eL v a t n f
        · rw [if_pos c, if_pos c, if_pos c, if_pos c]; exact ⟨rfl, rfl⟩
        · rw [if_neg c, if_neg c, if_neg c, if_neg c]; exact e i (by omega)
    · rw [if_neg c] at hi
      rw [if_neg c, if_neg c, if_neg c, if_neg c]
      exact e i hi
  refine ⟨hal, hn, hfg, ?_, ?_, ?_⟩
  · unfold eRm; rw [← hn, sumF_congr (fun i hi => (hfg i hi).2)]
  · unfold eRt; rw [← hal, ← hL, ← hT, waitE_congr e]
  · unfold eRs; rw [← hn, ← hT, waitE_congr hfg]
/-- At its own time or later no hit of a row that may be has gone, but those that do not count. -/
theorem own_time {l v T : Int} {n : Nat} {f g : Nat → Int} (h : MayHits l v T n f g) (t : Int) (ht : t ≤ T) : eL v T t n f = n ∧ (∀ i, eF0 v T t n f i = f i) ∧ (∀ i, eG0 v T t n f g i = g i) := by
  have hT : tmax t T = T := by unfold tmax; rw [if_pos ht]
  have hJ : eJ v T t n f = 0 := by
    unfold eJ
    rw [hT]
    rcases Nat.eq_zero_or_pos n with c | c
    · subst c; rfl
    · have := (first_iff (T := T) h 0 c).1 (h.each 0 c).2.1; omega
  refine ⟨by unfold eL; rw [hJ]; rfl, fun i => ?_, fun i => ?_⟩
  · unfold eF0 sh; rw [hJ, Nat.zero_add]
  · unfold eG0 sh; rw [hJ, Nat.zero_add]
/-- Behind an ask that was let in the last hit is of its time. -/
theorem last_T {l v a t m : Int} {n : Nat} {f g : Nat → Int} (e : eAl l v a t m n f g = true) : 1 ≤ eN l v a t m n f g ∧ eF l v a t m n f g (eN l v a t m n f g - 1) = tmax t a := by
  unfold eN eF
  rw [if_pos e, if_pos e]
  by_cases d : eSame v a t n f = true
  · rw [if_pos d, if_pos d]; exact same_iff.1 d
  · rw [if_neg d, if_neg d]
    refine ⟨by omega, ?_⟩
    unfold putF
    rw [if_pos (by omega)]
end Go.Proofs.Ytgdcgilhaedbmaa
