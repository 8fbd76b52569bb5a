/- The contracts of policy's small functions: within, the kinds' own, and the table of kinds. -/
import Derived.Test.YtkdmebgoobenkaaDoorNums5
import Derived.Deep.QuietTactic
import Derived.BigQuiet
import Derived.Deep.RegionWith
import Derived.WalkMore
import Derived.Laws.EntriesVeiled
-- prune
namespace Go.Proofs.YtkdmebgoobenkaaDoor
open Go.ChangeShapes Go.WideShapes Go.ChangeAt Go.RowKit
set_option linter.unusedVariables false

theorem win_yes (n a b : Int) (w : World) (h1 : a ≤ n) (h2 : n ≤ b) :
    Calls Tryd.prog 23 #[.int .i64 n, .int .i64 a, .int .i64 b] w fun e w' => e = .returned (.bool true) ∧ w = w' := by
  go_enter Tryd.func23, Tryd.ntmps23
  go_wp2
  go_ret
  exact ⟨rfl, rfl⟩
theorem win_no (n a b : Int) (w : World) (h : ¬ (a ≤ n ∧ n ≤ b)) :
    Calls Tryd.prog 23 #[.int .i64 n, .int .i64 a, .int .i64 b] w fun e w' => e = .returned (.bool false) ∧ w = w' := by
  by_cases h1 : a ≤ n
  · have t : decide (n ≤ b) = false := by simp; omega
    clear h
    go_enter Tryd.func23, Tryd.ntmps23
    go_wp2
    go_ret
    exact ⟨rfl, rfl⟩
  · clear h
    go_enter Tryd.func23, Tryd.ntmps23
    go_wp2
    go_ret
    exact ⟨rfl, rfl⟩

theorem anyLimit_yes (l : Int) (w : World) (h1 : 1 ≤ l) (h2 : l ≤ 1048576) : Calls Tryd.prog 28 #[.int .i64 l] w fun e w' => e = .returned (.bool true) ∧ w = w' := by
  go_enter Tryd.func28, Tryd.ntmps28
  go_wp2_with (go_at_call 23; refine (win_yes _ _ _ _ h1 h2).mono ?_; rintro e w' ⟨rfl, rfl⟩)
  go_ret
  exact ⟨rfl, rfl⟩
theorem anyLimit_no (l : Int) (w : World) (h : ¬ (1 ≤ l ∧ l ≤ 1048576)) : Calls Tryd.prog 28 #[.int .i64 l] w fun e w' => e = .returned (.bool false) ∧ w = w' := by
  go_enter Tryd.func28, Tryd.ntmps28
  go_wp2_with (go_at_call 23; refine (win_no _ _ _ _ h).mono ?_; rintro e w' ⟨rfl, rfl⟩)
  go_ret
  exact ⟨rfl, rfl⟩
theorem smallLimit_yes (l : Int) (w : World) (h1 : 1 ≤ l) (h2 : l ≤ 16) : Calls Tryd.prog 33 #[.int .i64 l] w fun e w' => e = .returned (.bool true) ∧ w = w' := by
  go_enter Tryd.func33, Tryd.ntmps33
  go_wp2_with (go_at_call 23; refine (win_yes _ _ _ _ h1 h2).mono ?_; rintro e w' ⟨rfl, rfl⟩)
  go_ret
  exact ⟨rfl, rfl⟩
theorem smallLimit_no (l : Int) (w : World) (h : ¬ (1 ≤ l ∧ l ≤ 16)) : Calls Tryd.prog 33 #[.int .i64 l] w fun e w' => e = .returned (.bool false) ∧ w = w' := by
  go_enter Tryd.func33, Tryd.ntmps33
  go_wp2_with (go_at_call 23; refine (win_no _ _ _ _ h).mono ?_; rintro e w' ⟨rfl, rfl⟩)
  go_ret
  exact ⟨rfl, rfl⟩
theorem noBuckets_yes (k l v : Int) (w : World) : Calls Tryd.prog 29 #[.agg #[.int .i64 k, .int .i64 l, .int .i64 v, .int .i64 0]] w fun e w' => e = .returned (.bool true) ∧ Below w.heap.size w w' := by
  go_enter Tryd.func29, Tryd.ntmps29
  go_wp2
  go_ret
  exact ⟨rfl, (Below.refl _ _).alloc (Nat.le_refl _) _⟩
theorem noBuckets_no (k l v b : Int) (w : World) (h : b ≠ 0) : Calls Tryd.prog 29 #[.agg #[.int .i64 k, .int .i64 l, .int .i64 v, .int .i64 b]] w fun e w' => e = .returned (.bool false) ∧ Below w.heap.size w w' := by
  have t : (b == 0) = false := by simp [h]
  go_enter Tryd.func29, Tryd.ntmps29
  go_wp2
  go_ret
  exact ⟨rfl, (Below.refl _ _).alloc (Nat.le_refl _) _⟩
theorem evenBuckets_yes (k l v b : Int) (w : World) (h1 : 1 ≤ b) (h2 : b ≤ 16) (h0 : 1 ≤ v) (h3 : v % b = 0) : Calls Tryd.prog 31 #[.agg #[.int .i64 k, .int .i64 l, .int .i64 v, .int .i64 b]] w fun e w' => e = .returned (.bool true) ∧ Below w.heap.size w w' := by
  have t : (v % b == 0) = true := by simp [h3]
  clear h3
  go_enter Tryd.func31, Tryd.ntmps31
  go_wp2_with (go_at_call 23; refine (win_yes _ _ _ _ h1 h2).mono ?_; rintro e w' ⟨rfl, rfl⟩)
  go_ret
  exact ⟨rfl, (Below.refl _ _).alloc (Nat.le_refl _) _⟩
theorem evenBuckets_rem (k l v b : Int) (w : World) (h1 : 1 ≤ b) (h2 : b ≤ 16) (h0 : 1 ≤ v) (h3 : v % b ≠ 0) : Calls Tryd.prog 31 #[.agg #[.int .i64 k, .int .i64 l, .int .i64 v, .int .i64 b]] w fun e w' => e = .returned (.bool false) ∧ Below w.heap.size w w' := by
  have t : (v % b == 0) = false := by simp [h3]
  clear h3
  go_enter Tryd.func31, Tryd.ntmps31
  go_wp2_with (go_at_call 23; refine (win_yes _ _ _ _ h1 h2).mono ?_; rintro e w' ⟨rfl, rfl⟩)
  go_ret
  exact ⟨rfl, (Below.refl _ _).alloc (Nat.le_refl _) _⟩
theorem evenBuckets_out (k l v b : Int) (w : World) (h : ¬ (1 ≤ b ∧ b ≤ 16)) : Calls Tryd.prog 31 #[.agg #[.int .i64 k, .int .i64 l, .int .i64 v, .int .i64 b]] w fun e w' => e = .returned (.bool false) ∧ Below w.heap.size w w' := by
  go_enter Tryd.func31, Tryd.ntmps31
  go_wp2_with (go_at_call 23; refine (win_no _ _ _ _ h).mono ?_; rintro e w' ⟨rfl, rfl⟩)
  go_ret
  exact ⟨rfl, (Below.refl _ _).alloc (Nat.le_refl _) _⟩
theorem wholeWindow_any (k l v b : Int) (w : World) : Calls Tryd.prog 30 #[.agg #[.int .i64 k, .int .i64 l, .int .i64 v, .int .i64 b]] w fun e w' => e = .returned (.int .i64 v) ∧ Below w.heap.size w w' := by
  go_enter Tryd.func30, Tryd.ntmps30
  go_wp2
  go_ret
  exact ⟨rfl, (Below.refl _ _).alloc (Nat.le_refl _) _⟩
theorem windowShare_any (k l v b : Int) (w : World) (h1 : 1 ≤ b) (h2 : b ≤ 16) (h3 : 1 ≤ v) (h4 : v ≤ 1048576) : Calls Tryd.prog 32 #[.agg #[.int .i64 k, .int .i64 l, .int .i64 v, .int .i64 b]] w fun e w' => e = .returned (.int .i64 (v / b)) ∧ Below w.heap.size w w' := by
  have hz : (b == 0) = false := by simp; omega
  have q1 : 0 ≤ v / b := Int.ediv_nonneg (by omega) (by omega)
  have q2 : v / b ≤ v := Int.ediv_le_self _ (by omega)
  go_enter Tryd.func32, Tryd.ntmps32
  go_wp2
  go_ret
  exact ⟨rfl, (Below.refl _ _).alloc (Nat.le_refl _) _⟩

/-- The table of kinds, as a value. -/
theorem kinds_any (w : World) : Calls Tryd.prog 24 #[] w fun e w' => e = .returned (.agg #[.nilFunc, .nilFunc, .nilFunc, .func (.func 28) #[] #[], .func (.func 29) #[] #[], .func (.func 30) #[] #[], .func (.func 28) #[] #[], .func (.func 29) #[] #[], .func (.func 30) #[] #[], .func (.func 28) #[] #[], .func (.func 31) #[] #[], .func (.func 32) #[] #[], .func (.func 33) #[] #[], .func (.func 29) #[] #[], .func (.func 30) #[] #[]]) ∧ w.alloc (.cells #[.nilFunc, .nilFunc, .nilFunc, .func (.func 28) #[] #[], .func (.func 29) #[] #[], .func (.func 30) #[] #[], .func (.func 28) #[] #[], .func (.func 29) #[] #[], .func (.func 30) #[] #[], .func (.func 28) #[] #[], .func (.func 31) #[] #[], .func (.func 32) #[] #[], .func (.func 33) #[] #[], .func (.func 29) #[] #[], .func (.func 30) #[] #[]] 44) = w' := by
  go_enter Tryd.func24, Tryd.ntmps24
  go_wp2
  exact bodyPost_ret (v := .agg #[.nilFunc, .nilFunc, .nilFunc, .func (.func 28) #[] #[], .func (.func 29) #[] #[], .func (.func 30) #[] #[], .func (.func 28) #[] #[], .func (.func 29) #[] #[], .func (.func 30) #[] #[], .func (.func 28) #[] #[], .func (.func 31) #[] #[], .func (.func 32) #[] #[], .func (.func 33) #[] #[], .func (.func 29) #[] #[], .func (.func 30) #[] #[]]) (by simp [results, Tryd.results24, go_sem]) rfl ⟨rfl, rfl⟩
theorem kind1 (w : World) : (Instr.index 44 (.agg #[.nilFunc, .nilFunc, .nilFunc, .func (.func 28) #[] #[], .func (.func 29) #[] #[], .func (.func 30) #[] #[], .func (.func 28) #[] #[], .func (.func 29) #[] #[], .func (.func 30) #[] #[], .func (.func 28) #[] #[], .func (.func 31) #[] #[], .func (.func 32) #[] #[], .func (.func 33) #[] #[], .func (.func 29) #[] #[], .func (.func 30) #[] #[]]) (.int .i64 1)).run Tryd.prog w = .ok (.agg #[.func (.func 28) #[] #[], .func (.func 29) #[] #[], .func (.func 30) #[] #[]]) w := by kernel_rfl
theorem kind2 (w : World) : (Instr.index 44 (.agg #[.nilFunc, .nilFunc, .nilFunc, .func (.func 28) #[] #[], .func (.func 29) #[] #[], .func (.func 30) #[] #[], .func (.func 28) #[] #[], .func (.func 29) #[] #[], .func (.func 30) #[] #[], .func (.func 28) #[] #[], .func (.func 31) #[] #[], .func (.func 32) #[] #[], .func (.func 33) #[] #[], .func (.func 29) #[] #[], .func (.func 30) #[] #[]]) (.int .i64 2)).run Tryd.prog w = .ok (.agg #[.func (.func 28) #[] #[], .func (.func 29) #[] #[], .func (.func 30) #[] #[]]) w := by kernel_rfl
theorem kind3 (w : World) : (Instr.index 44 (.agg #[.nilFunc, .nilFunc, .nilFunc, .func (.func 28) #[] #[], .func (.func 29) #[] #[], .func (.func 30) #[] #[], .func (.func 28) #[] #[], .func (.func 29) #[] #[], .func (.func 30) #[] #[], .func (.func 28) #[] #[], .func (.func 31) #[] #[], .func (.func 32) #[] #[], .func (.func 33) #[] #[], .func (.func 29) #[] #[], .func (.func 30) #[] #[]]) (.int .i64 3)).run Tryd.prog w = .ok (.agg #[.func (.func 28) #[] #[], .func (.func 31) #[] #[], .func (.func 32) #[] #[]]) w := by kernel_rfl
theorem kind4 (w : World) : (Instr.index 44 (.agg #[.nilFunc, .nilFunc, .nilFunc, .func (.func 28) #[] #[], .func (.func 29) #[] #[], .func (.func 30) #[] #[], .func (.func 28) #[] #[], .func (.func 29) #[] #[], .func (.func 30) #[] #[], .func (.func 28) #[] #[], .func (.func 31) #[] #[], .func (.func 32) #[] #[], .func (.func 33) #[] #[], .func (.func 29) #[] #[], .func (.func 30) #[] #[]]) (.int .i64 4)).run Tryd.prog w = .ok (.agg #[.func (.func 33) #[] #[], .func (.func 29) #[] #[], .func (.func 30) #[] #[]]) w := by kernel_rfl
end Go.Proofs.YtkdmebgoobenkaaDoor
