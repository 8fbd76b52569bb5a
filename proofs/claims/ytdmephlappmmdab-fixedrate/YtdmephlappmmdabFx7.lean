/- The document's Few, Same of cells without lists. -/
import Derived.Test.YtdmephlappmmdabFxLive
import Derived.LoopN
-- prune
namespace Go.Proofs.Ytdmephlappmmdab
open Go.ChangeShapes Go.WideShapes Go.ChangeAt Go.RowKit
set_option linter.unusedVariables false

theorem Few_yes (a n : Int) (sa ha : Option Addr) (sn sc hn hc : Nat) (w : World) (h1 : sn ≤ 40) (h2 : hn ≤ 40) : Calls Try.prog 8 #[.agg #[.int .i64 a, .int .i64 n, .slice sa sn sc, .slice ha hn hc]] w fun e w' => e = .returned (.bool true) ∧ Below w.heap.size w w' := by
  have d : decide ((hn : Int) ≤ 40) = true := by simp; omega
  go_enter Try.func8, Try.ntmps8
  go_wp2
  go_ret
  exact ⟨rfl, (Below.refl _ _).alloc (Nat.le_refl _) _⟩
theorem Few_no (a n : Int) (sa ha : Option Addr) (sn sc hn hc : Nat) (w : World) (h : ¬ (sn ≤ 40 ∧ hn ≤ 40)) (m1 : sn ≤ maxLen) (m2 : hn ≤ maxLen) : Calls Try.prog 8 #[.agg #[.int .i64 a, .int .i64 n, .slice sa sn sc, .slice ha hn hc]] w fun e w' => e = .returned (.bool false) ∧ Below w.heap.size w w' := by
  unfold maxLen at m1 m2
  by_cases h1 : sn ≤ 40
  · have d : decide ((hn : Int) ≤ 40) = false := by simp; omega
    clear h
    go_enter Try.func8, Try.ntmps8
    go_wp2
    go_ret
    exact ⟨rfl, (Below.refl _ _).alloc (Nat.le_refl _) _⟩
  · clear h
    go_enter Try.func8, Try.ntmps8
    go_wp2
    go_ret
    exact ⟨rfl, (Below.refl _ _).alloc (Nat.le_refl _) _⟩
set_option maxRecDepth 100000 in
theorem Same_0 (a n : Int) (w : World) : Calls Try.prog 12 #[.agg #[.int .i64 a, .int .i64 n, .slice none 0 0, .slice none 0 0], .agg #[.int .i64 a, .int .i64 n, .slice none 0 0, .slice none 0 0]] w fun e w' => e = .returned (.bool true) ∧ Below w.heap.size w w' := by
  go_enter Try.func12, Try.ntmps12
  go_wp2_with fail
  refine wp_loop_rounds 1 ?_
  rw [rounds_succ]
  go_wp2_with fail
  refine wp_loop_rounds 1 ?_
  rw [rounds_succ]
  go_wp2_with fail
  go_ret
  exact ⟨rfl, ((Below.refl _ _).alloc (Nat.le_refl _) _).alloc (by simp) _⟩
end Go.Proofs.Ytdmephlappmmdab
