/- What an ask tells, in one: the same of gcra.Ask and of the document's own. -/
import Derived.Test.YtdmephlappmmdaaGc5
namespace Go.Proofs.Ytdmephlappmmdaa
open Go.ChangeShapes Go.WideShapes Go.ChangeAt Go.RowKit
set_option linter.unusedVariables false

/-- What is in the bucket behind an ask. -/
def askHas (l v a n t m : Int) : Int := if levG l a n (tmax t a) + m * v ≤ l * v then levG l a n (tmax t a) + m * v else levG l a n (tmax t a)
def askAl (l v a n t m : Int) : Bool := decide (levG l a n (tmax t a) + m * v ≤ l * v)
def askRt (l v a n t m : Int) : Int := if levG l a n (tmax t a) + m * v ≤ l * v then 0 else if l < m then 2199023255552 else upS (levG l a n (tmax t a) + m * v - l * v) l
def askRm (l v a n t m : Int) : Int := (l * v - askHas l v a n t m) / v
def askRs (l v a n t m : Int) : Int := upS (askHas l v a n t m) l
/-- What an ask tells, as a value. -/
def askV (l v a n t m : Int) : Value := .tuple #[.agg #[.int .i64 (tmax t a), .int .i64 (askHas l v a n t m), .slice none 0 0, .slice none 0 0], .agg #[.bool (askAl l v a n t m), .int .i64 (askRm l v a n t m), .int .i64 (askRt l v a n t m), .int .i64 (askRs l v a n t m)]]
theorem le_of_worth {l v a n t m : Int} (hv : 1 ≤ v) (hR : 0 ≤ levG l a n (tmax t a)) (h : levG l a n (tmax t a) + m * v ≤ l * v) : m ≤ l := by
  rcases Int.lt_or_le l m with hlt | hle
  · exfalso
    have := Int.mul_le_mul_of_nonneg_right (show l + 1 ≤ m by omega) (show 0 ≤ v by omega)
    rw [Int.add_mul] at this
    omega
  · exact hle
theorem askR {l a n t : Int} (hn : 0 ≤ n) (hl : 0 ≤ l) : 0 ≤ levG l a n (tmax t a) ∧ levG l a n (tmax t a) ≤ n := levG_bd hn (by unfold tmax; split <;> omega) hl
theorem Ask_yes (k l v b a n t m : Int) (sa ha : Option Addr) (sn sc hn hc : Nat) (w : World) (h : MayA k l v b a n t m sn hn) :
    Calls Try.prog 10 #[.agg #[.int .i64 k, .int .i64 l, .int .i64 v, .int .i64 b], .agg #[.int .i64 a, .int .i64 n, .slice sa sn sc, .slice ha hn hc], .int .i64 t, .int .i64 m] w fun e w' => e = .returned (askV l v a n t m) ∧ Below w.heap.size w w' := by
  obtain ⟨hg, ht, hm⟩ := h
  obtain ⟨l1, l2, v1, v2⟩ := hg.1.lv
  have hR := (askR (l := l) (a := a) (t := t) hg.2.2.2.1 (by omega)).1
  by_cases hq : levG l a n (tmax t a) + m * v ≤ l * v
  · have := Ask_al k l v b a n t m _ _ _ _ sa ha sn sc hn hc w hg ht.1 ht.2 hm.1 hm.2 rfl rfl rfl rfl hq (le_of_worth v1 hR hq)
    rw [upS_0] at this
    unfold askV askRm askRs askHas askAl askRt
    rw [if_pos hq, if_pos hq, decide_eq_true hq]
    exact this
  · unfold askV askRm askRs askHas askAl askRt
    rw [if_neg hq, if_neg hq, decide_eq_false hq]
    by_cases hl : l < m
    · have := Ask_nv k l v b a n t m _ _ _ _ sa ha sn sc hn hc w hg ht.1 ht.2 hm.1 hm.2 rfl rfl rfl rfl (by omega) hl
      rw [if_pos hl]
      exact this
    · have := Ask_re k l v b a n t m _ _ _ _ sa ha sn sc hn hc w hg ht.1 ht.2 hm.1 hm.2 rfl rfl rfl rfl (by omega) (by omega)
      rw [if_neg hl]
      exact this
theorem rAsk_yes (k l v b a n t m : Int) (sa ha : Option Addr) (sn sc hn hc : Nat) (w : World) (h : MayA k l v b a n t m sn hn) :
    Calls Try.prog 11 #[.agg #[.int .i64 k, .int .i64 l, .int .i64 v, .int .i64 b], .agg #[.int .i64 a, .int .i64 n, .slice sa sn sc, .slice ha hn hc], .int .i64 t, .int .i64 m] w fun e w' => e = .returned (askV l v a n t m) ∧ Below w.heap.size w w' := by
  obtain ⟨hg, ht, hm⟩ := h
  obtain ⟨l1, l2, v1, v2⟩ := hg.1.lv
  unfold askV askRm askRs askHas askAl askRt
  by_cases hq : levG l a n (tmax t a) + m * v ≤ l * v
  · have := rAsk_al k l v b a n t m _ _ _ _ sa ha sn sc hn hc w hg ht.1 ht.2 hm.1 hm.2 rfl rfl rfl rfl hq
    rw [if_pos hq, if_pos hq, decide_eq_true hq]
    exact this
  · rw [if_neg hq, if_neg hq, decide_eq_false hq]
    by_cases hl : l < m
    · have := rAsk_nv k l v b a n t m _ _ _ _ sa ha sn sc hn hc w hg ht.1 ht.2 hm.1 hm.2 rfl rfl rfl rfl (by omega) hl
      rw [if_pos hl]
      exact this
    · have := rAsk_re k l v b a n t m _ _ _ _ sa ha sn sc hn hc w hg ht.1 ht.2 hm.1 hm.2 rfl rfl rfl rfl (by omega) (by omega)
      rw [if_neg hl]
      exact this
end Go.Proofs.Ytdmephlappmmdaa
