/- What an ask tells, in one: the same of fixed.Ask and of the document's own; and plain arithmetic of windows. -/
import Derived.Test.YtdmephlappmmdabFx5
namespace Go.Proofs.Ytdmephlappmmdab
open Go.ChangeShapes Go.WideShapes Go.ChangeAt Go.RowKit
set_option linter.unusedVariables false

/-- What was let in behind an ask. -/
def askHas (l v a n t m : Int) : Int := if totF v a n (tmax t a) + m ≤ l then totF v a n (tmax t a) + m else totF v a n (tmax t a)
def askAl (l v a n t m : Int) : Bool := decide (totF v a n (tmax t a) + m ≤ l)
def askRt (l v a n t m : Int) : Int := retF l v (tmax t a) m (askAl l v a n t m)
def askRm (l v a n t m : Int) : Int := l - askHas l v a n t m
def askRs (l v a n t m : Int) : Int := endF v (tmax t a) (askHas l v a n t m) - tmax t a
/-- What an ask tells, as a value. -/
def askV (l v a n t m : Int) : Value := .tuple #[.agg #[.int .i64 (tmax t a), .int .i64 (askHas l v a n t m), .slice none 0 0, .slice none 0 0], .agg #[.bool (askAl l v a n t m), .int .i64 (askRm l v a n t m), .int .i64 (askRt l v a n t m), .int .i64 (askRs l v a n t m)]]
theorem calls_eqB {f : Nat} {args : Array Value} {w : World} {a b : Value} (h : Calls Try.prog f args w fun e w' => e = .returned a ∧ Below w.heap.size w w') (e : a = b) : Calls Try.prog f args w fun e w' => e = .returned b ∧ Below w.heap.size w w' := by subst e; exact h
theorem Ask_yes (k l v b a n t m : Int) (sa ha : Option Addr) (sn sc hn hc : Nat) (w : World) (h : MayA k l v b a n t m sn hn) :
    Calls Try.prog 10 #[.agg #[.int .i64 k, .int .i64 l, .int .i64 v, .int .i64 b], .agg #[.int .i64 a, .int .i64 n, .slice sa sn sc, .slice ha hn hc], .int .i64 t, .int .i64 m] w fun e w' => e = .returned (askV l v a n t m) ∧ Below w.heap.size w w' := by
  obtain ⟨hg, ht, hm⟩ := h
  by_cases hq : totF v a n (tmax t a) + m ≤ l
  · have := Ask_al k l v b a n t m _ _ sa ha sn sc hn hc w hg ht.1 ht.2 hm.1 hm.2 rfl rfl hq
    unfold askV askRm askRs askRt askHas askAl
    rw [if_pos hq, decide_eq_true hq]
    exact this
  · have := Ask_re k l v b a n t m _ _ sa ha sn sc hn hc w hg ht.1 ht.2 hm.1 hm.2 rfl rfl (by omega)
    unfold askV askRm askRs askRt askHas askAl
    rw [if_neg hq, decide_eq_false hq]
    exact this
theorem totF_bd {l v a n t : Int} (h0 : 0 ≤ n) (h1 : n ≤ l) : 0 ≤ totF v a n t ∧ totF v a n t ≤ l := by unfold totF; split <;> omega
theorem verd {T H v0 v1 v2 v3 u0 u1 u2 u3 : Int} {al : Bool} (e1 : v1 = u1) (e2 : v2 = u2) (e3 : v3 = u3) : (Value.tuple #[.agg #[.int .i64 T, .int .i64 H, .slice none 0 0, .slice none 0 0], .agg #[.bool al, .int .i64 v1, .int .i64 v2, .int .i64 v3]]) = .tuple #[.agg #[.int .i64 T, .int .i64 H, .slice none 0 0, .slice none 0 0], .agg #[.bool al, .int .i64 u1, .int .i64 u2, .int .i64 u3]] := by
  subst e1 e2 e3; rfl
theorem rAsk_yes (k l v b a n t m : Int) (sa ha : Option Addr) (sn sc hn hc : Nat) (w : World) (h : MayA k l v b a n t m sn hn) :
    Calls Try.prog 11 #[.agg #[.int .i64 k, .int .i64 l, .int .i64 v, .int .i64 b], .agg #[.int .i64 a, .int .i64 n, .slice sa sn sc, .slice ha hn hc], .int .i64 t, .int .i64 m] w fun e w' => e = .returned (askV l v a n t m) ∧ Below w.heap.size w w' := by
  obtain ⟨hg, ht, hm⟩ := h
  have hb := totF_bd (v := v) (a := a) (t := tmax t a) hg.2.2.2.1 hg.2.2.2.2.1
  have hx := nextF_eq v (tmax t a)
  by_cases hq : totF v a n (tmax t a) + m ≤ l
  · have := rAsk_al k l v b a n t m _ _ _ sa ha sn sc hn hc w hg ht.1 ht.2 hm.1 hm.2 rfl rfl rfl hq
    unfold askV askRm askRs askRt askHas askAl
    rw [if_pos hq, decide_eq_true hq]
    refine calls_eqB this (verd (v0 := 0) (u0 := 0) rfl rfl ?_)
    unfold endF; rw [if_neg (by omega), hx]
  · unfold askV askRm askRs askRt askHas askAl
    rw [if_neg hq, decide_eq_false hq]
    unfold retF endF
    rw [if_neg (by simp)]
    by_cases hl : l < m
    · rw [if_pos hl]
      by_cases hz : totF v a n (tmax t a) = 0
      · have := rAsk_v0 k l v b a n t m _ _ _ sa ha sn sc hn hc w hg ht.1 ht.2 hm.1 hm.2 rfl rfl rfl (by omega) hl (by omega)
        refine calls_eqB this (verd (v0 := 0) (u0 := 0) rfl rfl ?_)
        rw [if_pos hz]; omega
      · have := rAsk_v1 k l v b a n t m _ _ _ sa ha sn sc hn hc w hg ht.1 ht.2 hm.1 hm.2 rfl rfl rfl (by omega) hl (by omega)
        refine calls_eqB this (verd (v0 := 0) (u0 := 0) rfl rfl ?_)
        rw [if_neg hz, hx]
    · rw [if_neg hl]
      have := rAsk_re k l v b a n t m _ _ _ sa ha sn sc hn hc w hg ht.1 ht.2 hm.1 hm.2 rfl rfl rfl (by omega) (by omega)
      refine calls_eqB this (verd (v0 := 0) (u0 := 0) rfl ?_ ?_)
      · rw [hx]
      · rw [if_neg (by omega), hx]
theorem tmax_tmax (t a : Int) : tmax t (tmax t a) = tmax t a := by
  by_cases h : t ≤ a
  · have e : tmax t a = a := if_pos h
    rw [e, e]
  · have e : tmax t a = t := if_neg h
    rw [e]; unfold tmax; split <;> rfl
theorem tmax_hi {t a : Int} (h : a ≤ t) : tmax t a = t := by unfold tmax; split <;> omega
theorem tmax_bd {t a : Int} : a ≤ tmax t a ∧ t ≤ tmax t a := by unfold tmax; split <;> omega
theorem askHas_bd {l v a n t m : Int} (hn : 0 ≤ n) (hn2 : n ≤ l) (hm : 0 ≤ m) : 0 ≤ askHas l v a n t m ∧ askHas l v a n t m ≤ l := by
  have h := totF_bd (v := v) (a := a) (t := tmax t a) hn hn2
  unfold askHas
  split <;> omega
/-- A cell behind an ask may be. -/
theorem MayG.next {k l v b a n t m : Int} {sn hn : Nat} (h : MayG k l v b a n sn hn) (t1 : 0 ≤ t) (t2 : t ≤ 1099511627776) (hm : 0 ≤ m) : MayG k l v b (tmax t a) (askHas l v a n t m) 0 0 := by
  have hb := askHas_bd (v := v) (a := a) (t := t) (m := m) h.2.2.2.1 h.2.2.2.2.1 hm
  refine ⟨h.1, h.2.1, ?_, hb.1, hb.2, rfl, rfl⟩
  have := h.2.2.1
  unfold tmax; split <;> omega
theorem tot_next (l v a n t m : Int) : totF v (tmax t a) (askHas l v a n t m) (tmax t (tmax t a)) = askHas l v a n t m := by
  rw [tmax_tmax]; exact totF_at _ _ _
theorem parts_yes {l v a n t m m' : Int} (h1 : askAl l v a n t m = true) (h2 : askAl l v (tmax t a) (askHas l v a n t m) t m' = true) :
    askAl l v a n t (m + m') = true ∧ askHas l v (tmax t a) (askHas l v a n t m) t m' = askHas l v a n t (m + m') ∧ askRt l v (tmax t a) (askHas l v a n t m) t m' = askRt l v a n t (m + m') := by
  have e := tot_next l v a n t m
  have h2' := h2
  unfold askAl at h1 h2
  rw [e] at h2
  have p1 : totF v a n (tmax t a) + m ≤ l := by simpa using h1
  have p2 : askHas l v a n t m + m' ≤ l := by simpa using h2
  have hH : askHas l v a n t m = totF v a n (tmax t a) + m := if_pos p1
  have p3 : totF v a n (tmax t a) + (m + m') ≤ l := by omega
  have a3 : askAl l v a n t (m + m') = true := by unfold askAl; simpa using p3
  refine ⟨a3, ?_, ?_⟩
  · have e2 : askHas l v a n t (m + m') = totF v a n (tmax t a) + (m + m') := if_pos p3
    have e1 : askHas l v (tmax t a) (askHas l v a n t m) t m' = askHas l v a n t m + m' := by
      show (if totF v (tmax t a) (askHas l v a n t m) (tmax t (tmax t a)) + m' ≤ l then _ else _) = _
      rw [e, if_pos p2]
    rw [e1, e2, hH]; omega
  · unfold askRt; rw [h2', a3]; rfl
theorem parts_no {l v a n t m m' : Int} (hm' : 0 ≤ m') (h : askAl l v a n t m = false ∨ askAl l v (tmax t a) (askHas l v a n t m) t m' = false) : askAl l v a n t (m + m') = false := by
  have e := tot_next l v a n t m
  unfold askAl at *
  rw [e] at h
  by_cases p1 : totF v a n (tmax t a) + m ≤ l
  · have hH : askHas l v a n t m = totF v a n (tmax t a) + m := if_pos p1
    rcases h with h | h
    · simp at h; omega
    · rw [hH] at h; simp at h ⊢; omega
  · simp; omega
/-- When a cell ends. -/
theorem end_bd {v a n : Int} (ha : 0 ≤ a) (hv : 1 ≤ v) : a ≤ endF v a n ∧ endF v a n ≤ a + v := by
  obtain ⟨_, _, q2, q3, q4⟩ := win_bd ha hv
  unfold endF nextF; split <;> omega
theorem div_next {v a : Int} (hv : 1 ≤ v) {t : Int} (h : nextF v a ≤ t) : ¬ t / v = a / v := by
  intro e
  have h1 : v * (t / v) + t % v = t := Int.mul_ediv_add_emod t v
  have h3 : t % v < v := Int.emod_lt_of_pos _ (by omega)
  unfold nextF at h
  rw [e, Int.mul_comm] at h1
  omega
theorem div_ahead {v a : Int} (ha : 0 ≤ a) (hv : 1 ≤ v) : (nextF v a - 1) / v = a / v := by
  unfold nextF
  have : a / v * v + v - 1 = (v - 1) + v * (a / v) := by rw [Int.mul_comm]; omega
  rw [this, Int.add_mul_ediv_left _ _ (by omega), Int.ediv_eq_zero_of_lt (by omega) (by omega)]; omega
/-- From its end on nothing of a cell counts. -/
theorem tot_end {v a n t : Int} (hv : 1 ≤ v) (h : endF v a n ≤ t) : totF v a n t = 0 := by
  unfold endF at h
  unfold totF
  split at h
  · split <;> omega
  · rw [if_neg (div_next hv h)]
/-- A tick ahead of its end all of it does. -/
theorem tot_ahead {v a n : Int} (ha : 0 ≤ a) (hv : 1 ≤ v) (hn : n ≠ 0) : totF v a n (endF v a n - 1) = n := by
  unfold endF totF
  rw [if_neg hn, if_pos (div_ahead ha hv)]
/-- From its end on a cell is as a new one. -/
theorem ask_end {l v a n t m : Int} (ha : 0 ≤ a) (hv : 1 ≤ v) (h : endF v a n ≤ t) : askHas l v a n t m = askHas l v t 0 t m ∧ askAl l v a n t m = askAl l v t 0 t m ∧ askRt l v a n t m = askRt l v t 0 t m ∧ tmax t a = tmax t t := by
  have h0 := (end_bd (n := n) ha hv).1
  have e1 : tmax t a = t := tmax_hi (by omega)
  have e2 : tmax t t = t := tmax_hi (by omega)
  have l1 : totF v a n t = 0 := tot_end hv h
  have l2 : totF v t 0 t = 0 := totF_at _ _ _
  unfold askRt askHas askAl
  rw [e1, e2, l1, l2]
  exact ⟨rfl, rfl, rfl, rfl⟩
theorem next_pos {v t : Int} (ht : 0 ≤ t) (hv : 1 ≤ v) : t < nextF v t := by
  obtain ⟨_, _, q2, q3, q4⟩ := win_bd ht hv
  exact q4
end Go.Proofs.Ytdmephlappmmdab
