/- The contracts of policy's small functions: within, the kinds' own, and the table of kinds. -/
import Derived.Test.YtgdcgilhaedbmacNums5
import Derived.Deep.QuietTactic
import Derived.BigQuiet
import Derived.Deep.RegionWith
import Derived.WalkMore
import Derived.Laws.EntriesVeiled
-- prune
namespace Go.Proofs.Ytgdcgilhaedbmac
open Go.ChangeShapes Go.WideShapes Go.ChangeAt Go.RowKit
set_option linter.unusedVariables false

theorem win_yes (n a b : Int) (w : World) (h1 : a ≤ n) (h2 : n ≤ b) :
    Calls Try.prog 34 #[.int .i64 n, .int .i64 a, .int .i64 b] w fun e w' => e = .returned (.bool true) ∧ w = w' := by
  go_enter Try.func34, Try.ntmps34
  go_wp2
  go_ret
  exact ⟨rfl, rfl⟩
theorem win_no (n a b : Int) (w : World) (h : ¬ (a ≤ n ∧ n ≤ b)) :
    Calls Try.prog 34 #[.int .i64 n, .int .i64 a, .int .i64 b] w fun e w' => e = .returned (.bool false) ∧ w = w' := by
  by_cases h1 : a ≤ n
  · have t : decide (n ≤ b) = false := by simp; omega
    clear h
    go_enter Try.func34, Try.ntmps34
    go_wp2
    go_ret
    exact ⟨rfl, rfl⟩
  · clear h
    go_enter Try.func34, Try.ntmps34
    go_wp2
    go_ret
    exact ⟨rfl, rfl⟩

theorem anyLimit_yes (l : Int) (w : World) (h1 : 1 ≤ l) (h2 : l ≤ 1048576) : Calls Try.prog 36 #[.int .i64 l] w fun e w' => e = .returned (.bool true) ∧ w = w' := by
  go_enter Try.func36, Try.ntmps36
  go_wp2_with (go_at_call 34; refine (win_yes _ _ _ _ h1 h2).mono ?_; rintro e w' ⟨rfl, rfl⟩)
  go_ret
  exact ⟨rfl, rfl⟩
theorem anyLimit_no (l : Int) (w : World) (h : ¬ (1 ≤ l ∧ l ≤ 1048576)) : Calls Try.prog 36 #[.int .i64 l] w fun e w' => e = .returned (.bool false) ∧ w = w' := by
  go_enter Try.func36, Try.ntmps36
  go_wp2_with (go_at_call 34; refine (win_no _ _ _ _ h).mono ?_; rintro e w' ⟨rfl, rfl⟩)
  go_ret
  exact ⟨rfl, rfl⟩
theorem smallLimit_yes (l : Int) (w : World) (h1 : 1 ≤ l) (h2 : l ≤ 16) : Calls Try.prog 41 #[.int .i64 l] w fun e w' => e = .returned (.bool true) ∧ w = w' := by
  go_enter Try.func41, Try.ntmps41
  go_wp2_with (go_at_call 34; refine (win_yes _ _ _ _ h1 h2).mono ?_; rintro e w' ⟨rfl, rfl⟩)
  go_ret
  exact ⟨rfl, rfl⟩
theorem smallLimit_no (l : Int) (w : World) (h : ¬ (1 ≤ l ∧ l ≤ 16)) : Calls Try.prog 41 #[.int .i64 l] w fun e w' => e = .returned (.bool false) ∧ w = w' := by
  go_enter Try.func41, Try.ntmps41
  go_wp2_with (go_at_call 34; refine (win_no _ _ _ _ h).mono ?_; rintro e w' ⟨rfl, rfl⟩)
  go_ret
  exact ⟨rfl, rfl⟩
theorem noBuckets_yes (k l v : Int) (w : World) : Calls Try.prog 37 #[.agg #[.int .i64 k, .int .i64 l, .int .i64 v, .int .i64 0]] w fun e w' => e = .returned (.bool true) ∧ Below w.heap.size w w' := by
  go_enter Try.func37, Try.ntmps37
  go_wp2
  go_ret
  exact ⟨rfl, (Below.refl _ _).alloc (Nat.le_refl _) _⟩
theorem noBuckets_no (k l v b : Int) (w : World) (h : b ≠ 0) : Calls Try.prog 37 #[.agg #[.int .i64 k, .int .i64 l, .int .i64 v, .int .i64 b]] w fun e w' => e = .returned (.bool false) ∧ Below w.heap.size w w' := by
  have t : (b == 0) = false := by simp [h]
  go_enter Try.func37, Try.ntmps37
  go_wp2
  go_ret
  exact ⟨rfl, (Below.refl _ _).alloc (Nat.le_refl _) _⟩
theorem evenBuckets_yes (k l v b : Int) (w : World) (h1 : 1 ≤ b) (h2 : b ≤ 16) (h0 : 1 ≤ v) (h3 : v % b = 0) : Calls Try.prog 39 #[.agg #[.int .i64 k, .int .i64 l, .int .i64 v, .int .i64 b]] w fun e w' => e = .returned (.bool true) ∧ Below w.heap.size w w' := by
  have t : (v % b == 0) = true := by simp [h3]
  clear h3
  go_enter Try.func39, Try.ntmps39
  go_wp2_with (go_at_call 34; refine (win_yes _ _ _ _ h1 h2).mono ?_; rintro e w' ⟨rfl, rfl⟩)
  go_ret
  exact ⟨rfl, (Below.refl _ _).alloc (Nat.le_refl _) _⟩
theorem evenBuckets_rem (k l v b : Int) (w : World) (h1 : 1 ≤ b) (h2 : b ≤ 16) (h0 : 1 ≤ v) (h3 : v % b ≠ 0) : Calls Try.prog 39 #[.agg #[.int .i64 k, .int .i64 l, .int .i64 v, .int .i64 b]] w fun e w' => e = .returned (.bool false) ∧ Below w.heap.size w w' := by
  have t : (v % b == 0) = false := by simp [h3]
  clear h3
  go_enter Try.func39, Try.ntmps39
  go_wp2_with (go_at_call 34; refine (win_yes _ _ _ _ h1 h2).mono ?_; rintro e w' ⟨rfl, rfl⟩)
  go_ret
  exact ⟨rfl, (Below.refl _ _).alloc (Nat.le_refl _) _⟩
theorem evenBuckets_out (k l v b : Int) (w : World) (h : ¬ (1 ≤ b ∧ b ≤ 16)) : Calls Try.prog 39 #[.agg #[.int .i64 k, .int .i64 l, .int .i64 v, .int .i64 b]] w fun e w' => e = .returned (.bool false) ∧ Below w.heap.size w w' := by
  go_enter Try.func39, Try.ntmps39
  go_wp2_with (go_at_call 34; refine (win_no _ _ _ _ h).mono ?_; rintro e w' ⟨rfl, rfl⟩)
  go_ret
  exact ⟨rfl, (Below.refl _ _).alloc (Nat.le_refl _) _⟩
theorem wholeWindow_any (k l v b : Int) (w : World) : Calls Try.prog 38 #[.agg #[.int .i64 k, .int .i64 l, .int .i64 v, .int .i64 b]] w fun e w' => e = .returned (.int .i64 v) ∧ Below w.heap.size w w' := by
  go_enter Try.func38, Try.ntmps38
  go_wp2
  go_ret
  exact ⟨rfl, (Below.refl _ _).alloc (Nat.le_refl _) _⟩
theorem windowShare_any (k l v b : Int) (w : World) (h1 : 1 ≤ b) (h2 : b ≤ 16) (h3 : 1 ≤ v) (h4 : v ≤ 1048576) : Calls Try.prog 40 #[.agg #[.int .i64 k, .int .i64 l, .int .i64 v, .int .i64 b]] w fun e w' => e = .returned (.int .i64 (v / b)) ∧ Below w.heap.size w w' := by
  have hz : (b == 0) = false := by simp; omega
  have q1 : 0 ≤ v / b := Int.ediv_nonneg (by omega) (by omega)
  have q2 : v / b ≤ v := Int.ediv_le_self _ (by omega)
  go_enter Try.func40, Try.ntmps40
  go_wp2
  go_ret
  exact ⟨rfl, (Below.refl _ _).alloc (Nat.le_refl _) _⟩

/-- The table of kinds, as a value. -/
theorem kinds_any (w : World) : Calls Try.prog 35 #[] w fun e w' => e = .returned (.agg #[.nilFunc, .nilFunc, .nilFunc, .func (.func 36) #[] #[], .func (.func 37) #[] #[], .func (.func 38) #[] #[], .func (.func 36) #[] #[], .func (.func 37) #[] #[], .func (.func 38) #[] #[], .func (.func 36) #[] #[], .func (.func 39) #[] #[], .func (.func 40) #[] #[], .func (.func 41) #[] #[], .func (.func 37) #[] #[], .func (.func 38) #[] #[]]) ∧ w.alloc (.cells #[.nilFunc, .nilFunc, .nilFunc, .func (.func 36) #[] #[], .func (.func 37) #[] #[], .func (.func 38) #[] #[], .func (.func 36) #[] #[], .func (.func 37) #[] #[], .func (.func 38) #[] #[], .func (.func 36) #[] #[], .func (.func 39) #[] #[], .func (.func 40) #[] #[], .func (.func 41) #[] #[], .func (.func 37) #[] #[], .func (.func 38) #[] #[]] 66) = w' := by
  go_enter Try.func35, Try.ntmps35
  go_wp2
  exact bodyPost_ret (v := .agg #[.nilFunc, .nilFunc, .nilFunc, .func (.func 36) #[] #[], .func (.func 37) #[] #[], .func (.func 38) #[] #[], .func (.func 36) #[] #[], .func (.func 37) #[] #[], .func (.func 38) #[] #[], .func (.func 36) #[] #[], .func (.func 39) #[] #[], .func (.func 40) #[] #[], .func (.func 41) #[] #[], .func (.func 37) #[] #[], .func (.func 38) #[] #[]]) (by simp [results, Try.results35, go_sem]) rfl ⟨rfl, rfl⟩
theorem kind1 (w : World) : (Instr.index 66 (.agg #[.nilFunc, .nilFunc, .nilFunc, .func (.func 36) #[] #[], .func (.func 37) #[] #[], .func (.func 38) #[] #[], .func (.func 36) #[] #[], .func (.func 37) #[] #[], .func (.func 38) #[] #[], .func (.func 36) #[] #[], .func (.func 39) #[] #[], .func (.func 40) #[] #[], .func (.func 41) #[] #[], .func (.func 37) #[] #[], .func (.func 38) #[] #[]]) (.int .i64 1)).run Try.prog w = .ok (.agg #[.func (.func 36) #[] #[], .func (.func 37) #[] #[], .func (.func 38) #[] #[]]) w := by kernel_rfl
theorem kind2 (w : World) : (Instr.index 66 (.agg #[.nilFunc, .nilFunc, .nilFunc, .func (.func 36) #[] #[], .func (.func 37) #[] #[], .func (.func 38) #[] #[], .func (.func 36) #[] #[], .func (.func 37) #[] #[], .func (.func 38) #[] #[], .func (.func 36) #[] #[], .func (.func 39) #[] #[], .func (.func 40) #[] #[], .func (.func 41) #[] #[], .func (.func 37) #[] #[], .func (.func 38) #[] #[]]) (.int .i64 2)).run Try.prog w = .ok (.agg #[.func (.func 36) #[] #[], .func (.func 37) #[] #[], .func (.func 38) #[] #[]]) w := by kernel_rfl
theorem kind3 (w : World) : (Instr.index 66 (.agg #[.nilFunc, .nilFunc, .nilFunc, .func (.func 36) #[] #[], .func (.func 37) #[] #[], .func (.func 38) #[] #[], .func (.func 36) #[] #[], .func (.func 37) #[] #[], .func (.func 38) #[] #[], .func (.func 36) #[] #[], .func (.func 39) #[] #[], .func (.func 40) #[] #[], .func (.func 41) #[] #[], .func (.func 37) #[] #[], .func (.func 38) #[] #[]]) (.int .i64 3)).run Try.prog w = .ok (.agg #[.func (.func 36) #[] #[], .func (.func 39) #[] #[], .func (.func 40) #[] #[]]) w := by kernel_rfl
theorem kind4 (w : World) : (Instr.index 66 (.agg #[.nilFunc, .nilFunc, .nilFunc, .func (.func 36) #[] #[], .func (.func 37) #[] #[], .func (.func 38) #[] #[], .func (.func 36) #[] #[], .func (.func 37) #[] #[], .func (.func 38) #[] #[], .func (.func 36) #[] #[], .func (.func 39) #[] #[], .func (.func 40) #[] #[], .func (.func 41) #[] #[], .func (.func 37) #[] #[], .func (.func 38) #[] #[]]) (.int .i64 4)).run Try.prog w = .ok (.agg #[.func (.func 41) #[] #[], .func (.func 37) #[] #[], .func (.func 38) #[] #[]]) w := by kernel_rfl
end Go.Proofs.Ytgdcgilhaedbmac
