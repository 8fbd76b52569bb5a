/- The document's Few, Same of cells without lists; what two asks at one time come to. -/
import Derived.Test.YtdmephlappmmdaaGc6
import Derived.LoopN
-- prune
namespace Go.Proofs.Ytdmephlappmmdaa
open Go.ChangeShapes Go.WideShapes Go.ChangeAt Go.RowKit
set_option linter.unusedVariables false

theorem Few_yes (a n : Int) (sa ha : Option Addr) (sn sc hn hc : Nat) (w : World) (h1 : sn ≤ 40) (h2 : hn ≤ 40) : Calls Try.prog 8 #[.agg #[.int .i64 a, .int .i64 n, .slice sa sn sc, .slice ha hn hc]] w fun e w' => e = .returned (.bool true) ∧ Below w.heap.size w w' := by
  have d : decide ((hn : Int) ≤ 40) = true := by simp; omega
  go_enter Try.func8, Try.ntmps8
  go_wp2
  go_ret
  exact ⟨rfl, (Below.refl _ _).alloc (Nat.le_refl _) _⟩
theorem Few_no (a n : Int) (sa ha : Option Addr) (sn sc hn hc : Nat) (w : World) (h : ¬ (sn ≤ 40 ∧ hn ≤ 40)) (m1 : sn ≤ maxLen) (m2 : hn ≤ maxLen) : Calls Try.prog 8 #[.agg #[.int .i64 a, .int .i64 n, .slice sa sn sc, .slice ha hn hc]] w fun e w' => e = .returned (.bool false) ∧ Below w.heap.size w w' := by
  unfold maxLen at m1 m2
  by_cases h1 : sn ≤ 40
  · have d : decide ((hn : Int) ≤ 40) = false := by simp; omega
    clear h
    go_enter Try.func8, Try.ntmps8
    go_wp2
    go_ret
    exact ⟨rfl, (Below.refl _ _).alloc (Nat.le_refl _) _⟩
  · clear h
    go_enter Try.func8, Try.ntmps8
    go_wp2
    go_ret
    exact ⟨rfl, (Below.refl _ _).alloc (Nat.le_refl _) _⟩
set_option maxRecDepth 100000 in
theorem Same_0 (a n : Int) (w : World) : Calls Try.prog 12 #[.agg #[.int .i64 a, .int .i64 n, .slice none 0 0, .slice none 0 0], .agg #[.int .i64 a, .int .i64 n, .slice none 0 0, .slice none 0 0]] w fun e w' => e = .returned (.bool true) ∧ Below w.heap.size w w' := by
  go_enter Try.func12, Try.ntmps12
  go_wp2_with fail
  refine wp_loop_rounds 1 ?_
  rw [rounds_succ]
  go_wp2_with fail
  refine wp_loop_rounds 1 ?_
  rw [rounds_succ]
  go_wp2_with fail
  go_ret
  exact ⟨rfl, ((Below.refl _ _).alloc (Nat.le_refl _) _).alloc (by simp) _⟩
theorem tmax_tmax (t a : Int) : tmax t (tmax t a) = tmax t a := by
  by_cases h : t ≤ a
  · have e : tmax t a = a := if_pos h
    rw [e, e]
  · have e : tmax t a = t := if_neg h
    rw [e]; unfold tmax; split <;> rfl
theorem askHas_pos {l v a n t m : Int} (h : levG l a n (tmax t a) + m * v ≤ l * v) : askHas l v a n t m = levG l a n (tmax t a) + m * v := if_pos h
theorem askRt_pos {l v a n t m : Int} (h : levG l a n (tmax t a) + m * v ≤ l * v) : askRt l v a n t m = 0 := if_pos h
theorem askHas_bd {l v a n t m : Int} (hn : 0 ≤ n) (hn2 : n ≤ l * v) (hl : 0 ≤ l) (hm : 0 ≤ m) (hv : 0 ≤ v) : 0 ≤ askHas l v a n t m ∧ askHas l v a n t m ≤ l * v := by
  have h := askR (l := l) (a := a) (t := t) hn hl
  have := Int.mul_nonneg hm hv
  unfold askHas
  split <;> omega
/-- A cell behind an ask may be. -/
theorem MayG.next {k l v b a n t m : Int} {sn hn : Nat} (h : MayG k l v b a n sn hn) (t1 : 0 ≤ t) (t2 : t ≤ 1099511627776) (hm : 0 ≤ m) : MayG k l v b (tmax t a) (askHas l v a n t m) 0 0 := by
  obtain ⟨l1, l2, v1, v2⟩ := h.1.lv
  have hb := askHas_bd (a := a) (t := t) (m := m) h.2.2.2.1 h.2.2.2.2.1 (show 0 ≤ l by omega) hm (show 0 ≤ v by omega)
  refine ⟨h.1, h.2.1, ?_, hb.1, hb.2, rfl, rfl⟩
  have := h.2.2.1
  unfold tmax; split <;> omega
theorem lev_next (l v a n t m : Int) (h : 0 ≤ askHas l v a n t m) : levG l (tmax t a) (askHas l v a n t m) (tmax t (tmax t a)) = askHas l v a n t m := by
  rw [tmax_tmax]; exact levG_at _ _ _ h
theorem parts_yes {l v a n t m m' : Int} (h0 : 0 ≤ askHas l v a n t m) (h1 : askAl l v a n t m = true) (h2 : askAl l v (tmax t a) (askHas l v a n t m) t m' = true) :
    askAl l v a n t (m + m') = true ∧ askHas l v (tmax t a) (askHas l v a n t m) t m' = askHas l v a n t (m + m') ∧ askRt l v (tmax t a) (askHas l v a n t m) t m' = askRt l v a n t (m + m') := by
  unfold askAl at *
  rw [lev_next l v a n t m h0] at h2
  have e := lev_next l v a n t m h0
  have q : (m + m') * v = m * v + m' * v := Int.add_mul _ _ _
  have p1 : levG l a n (tmax t a) + m * v ≤ l * v := by simpa using h1
  have p2 : askHas l v a n t m + m' * v ≤ l * v := by simpa using h2
  have hH : askHas l v a n t m = levG l a n (tmax t a) + m * v := askHas_pos p1
  have p3 : levG l a n (tmax t a) + (m + m') * v ≤ l * v := by rw [q]; omega
  refine ⟨by simpa using p3, ?_, ?_⟩
  · rw [askHas_pos (l := l) (a := tmax t a) (n := askHas l v a n t m) (t := t) (m := m') (v := v) (by rw [e]; exact p2), e, askHas_pos p3, hH, q]; omega
  · rw [askRt_pos (l := l) (a := tmax t a) (n := askHas l v a n t m) (t := t) (m := m') (v := v) (by rw [e]; exact p2), askRt_pos p3]
theorem parts_no {l v a n t m m' : Int} (h0 : 0 ≤ askHas l v a n t m) (hm' : 0 ≤ m' * v) (h : askAl l v a n t m = false ∨ askAl l v (tmax t a) (askHas l v a n t m) t m' = false) : askAl l v a n t (m + m') = false := by
  unfold askAl at *
  rw [lev_next l v a n t m h0] at h
  have q : (m + m') * v = m * v + m' * v := Int.add_mul _ _ _
  rw [q]
  by_cases p1 : levG l a n (tmax t a) + m * v ≤ l * v
  · have hH : askHas l v a n t m = levG l a n (tmax t a) + m * v := askHas_pos p1
    rcases h with h | h
    · simp at h; omega
    · rw [hH] at h; simp at h ⊢; omega
  · simp; omega
end Go.Proofs.Ytdmephlappmmdaa
