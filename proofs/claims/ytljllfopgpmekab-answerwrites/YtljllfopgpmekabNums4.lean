/- The contracts of nums.Number and of the document's own Number: a number's bytes, at any place. -/
import Derived.Test.YtljllfopgpmekabNums3
-- prune
namespace Go.Proofs.Ytljllfopgpmekab
open Go.ChangeShapes Go.WideShapes Go.ChangeAt Go.RowKit
set_option linter.unusedVariables false

theorem within_yes (s : ByteArray) (a : Int) (w : World) (hs : s.size ≤ maxLen) (h : 0 ≤ a ∧ a ≤ s.size) :
    Calls Try.prog 90 #[.string s, .int .i64 a] w fun e w' => e = .returned (.bool true) ∧ w = w' := by
  have E := Lib.hid (show decide (0 ≤ a ∧ a ≤ s.size) = true by simpa using h)
  refine (within_any s a w hs).mono ?_
  rintro e w' ⟨rfl, rfl⟩
  exact ⟨by rw [E.out], rfl⟩
theorem within_no (s : ByteArray) (a : Int) (w : World) (hs : s.size ≤ maxLen) (h : ¬ (0 ≤ a ∧ a ≤ s.size)) :
    Calls Try.prog 90 #[.string s, .int .i64 a] w fun e w' => e = .returned (.bool false) ∧ w = w' := by
  have E := Lib.hid (show decide (0 ≤ a ∧ a ≤ s.size) = false by simpa using h)
  refine (within_any s a w hs).mono ?_
  rintro e w' ⟨rfl, rfl⟩
  exact ⟨by rw [E.out], rfl⟩

theorem sub_list (s : ByteArray) (n k : Nat) : (s.extract n (n + k)).data.toList = (s.data.toList.drop n).take k := by
  simp [ByteArray.data_extract, List.take_drop]
theorem sub_size (s : ByteArray) (n k : Nat) (h : n + k ≤ s.size) : (s.extract n (n + k)).size = k := by
  rw [ByteArray.size_extract]; omega
theorem run_sub {P : Program} {t : TypeId} (ht : P.underlying t = some .string) (s : ByteArray) (n k : Nat) (h : n + k ≤ s.size) (W : World) :
    (Instr.slice t (.string s) (some (.int .i64 (n : Int))) (some (.int .i64 ((n : Int) + (k : Int)))) none).run P W = .ok (.string (s.extract n (n + k))) W := by
  rw [run_slice_string _ _ _ _ _ _ _ ht (by omega) (by omega) (by omega)]
  rw [show ((n : Int) + (k : Int)).toNat = n + k by omega, Int.toNat_natCast]

theorem ret3 {a a' : Value} {b b' : Int} {v : Value} (h : a = a') (h2 : b = b') : Ending.returned (.tuple #[a, .int .i64 b, v]) = .returned (.tuple #[a', .int .i64 b', v]) := by rw [h, h2]

theorem Number_yes (s : ByteArray) (n k : Nat) (w : World) (hs : s.size ≤ maxLen) (hn : n + k ≤ s.size) (hk : k ≤ 8) :
    Calls Try.prog 82 #[.string s, .int .i64 n, .int .i64 k] w fun e w' => e = .returned (.tuple #[.int .u64 (numB ((s.data.toList.drop n).take k)), .int .i64 ((n + k : Nat) : Int), .int .i64 0]) ∧ w = w' := by
  have hs' := hs
  unfold maxLen at hs'
  have hsl := run_sub (P := Try.prog) Try.underlying9 s n k hn
  have hz := Lib.hid (sub_size s n k hn)
  go_enter Try.func82, Try.ntmps82
  go_wp2_with (first | (go_at_call 87; refine (fits_yes _ _ (by omega)).mono ?_; rintro e w' ⟨rfl, rfl⟩) | (go_at_call 90; refine (within_yes _ _ _ hs (by omega)).mono ?_; rintro e w' ⟨rfl, rfl⟩) | (go_at_call 91; refine (Narrow_yes _ _ (by rw [hz.out]; exact hk)).mono ?_; rintro e w' ⟨rfl, rfl⟩))
  go_ret3
  exact ⟨ret3 rfl (by omega), rfl⟩
theorem Number_arg (s : ByteArray) (n k : Int) (w : World) (hs : s.size ≤ maxLen) (h : ¬ (0 ≤ k ∧ k ≤ 8) ∨ ¬ (0 ≤ n ∧ n ≤ s.size)) :
    Calls Try.prog 82 #[.string s, .int .i64 n, .int .i64 k] w fun e w' => e = .returned (.tuple #[.int .u64 0, .int .i64 0, .int .i64 1]) ∧ w = w' := by
  have hs' := hs
  unfold maxLen at hs'
  by_cases h1 : 0 ≤ k ∧ k ≤ 8
  · have h2 : ¬ (0 ≤ n ∧ n ≤ s.size) := by rcases h with h | h; exact absurd h1 h; exact h
    clear h
    go_enter Try.func82, Try.ntmps82
    go_wp2_with (first | (go_at_call 87; refine (fits_yes _ _ h1).mono ?_; rintro e w' ⟨rfl, rfl⟩) | (go_at_call 90; refine (within_no _ _ _ hs h2).mono ?_; rintro e w' ⟨rfl, rfl⟩))
    go_ret3
    exact ⟨rfl, rfl⟩
  · clear h
    go_enter Try.func82, Try.ntmps82
    go_wp2_with (first | (go_at_call 87; refine (fits_no _ _ h1).mono ?_; rintro e w' ⟨rfl, rfl⟩))
    go_ret3
    exact ⟨rfl, rfl⟩
theorem Number_cut (s : ByteArray) (n k : Int) (w : World) (hs : s.size ≤ maxLen) (h1 : 0 ≤ k ∧ k ≤ 8) (h2 : 0 ≤ n ∧ n ≤ s.size) (h3 : s.size - n < k) :
    Calls Try.prog 82 #[.string s, .int .i64 n, .int .i64 k] w fun e w' => e = .returned (.tuple #[.int .u64 0, .int .i64 0, .int .i64 2]) ∧ w = w' := by
  have hs' := hs
  unfold maxLen at hs'
  obtain ⟨h4, h5⟩ := h2
  go_enter Try.func82, Try.ntmps82
  go_wp2_with (first | (go_at_call 87; refine (fits_yes _ _ h1).mono ?_; rintro e w' ⟨rfl, rfl⟩) | (go_at_call 90; refine (within_yes _ _ _ hs ⟨h4, h5⟩).mono ?_; rintro e w' ⟨rfl, rfl⟩))
  go_ret3
  exact ⟨rfl, rfl⟩

theorem rNumber_yes (s : ByteArray) (n k : Nat) (w : World) (hs : s.size ≤ maxLen) (hn : n + k ≤ s.size) (hk : k ≤ 8) :
    Calls Try.prog 56 #[.string s, .int .i64 n, .int .i64 k] w fun e w' => e = .returned (.tuple #[.int .u64 (numB ((s.data.toList.drop n).take k)), .int .i64 ((n + k : Nat) : Int), .int .i64 0]) ∧ w = w' := by
  have hs' := hs
  unfold maxLen at hs'
  have hsl := run_sub (P := Try.prog) Try.underlying9 s n k hn
  have hz := Lib.hid (sub_size s n k hn)
  go_enter Try.func56, Try.ntmps56
  go_wp2_with (first | (go_at_call 77; refine (rNarrow_yes _ _ (by rw [hz.out]; exact hk)).mono ?_; rintro e w' ⟨rfl, rfl⟩))
  go_ret3
  exact ⟨ret3 rfl (by omega), rfl⟩
theorem rNumber_arg (s : ByteArray) (n k : Int) (w : World) (hs : s.size ≤ maxLen) (h : ¬ (0 ≤ k ∧ k ≤ 8) ∨ ¬ (0 ≤ n ∧ n ≤ s.size)) :
    Calls Try.prog 56 #[.string s, .int .i64 n, .int .i64 k] w fun e w' => e = .returned (.tuple #[.int .u64 0, .int .i64 0, .int .i64 1]) ∧ w = w' := by
  have hs' := hs
  unfold maxLen at hs'
  have h' : k < 0 ∨ (¬ k < 0 ∧ 8 < k) ∨ (¬ k < 0 ∧ ¬ 8 < k ∧ n < 0) ∨ (¬ k < 0 ∧ ¬ 8 < k ∧ ¬ n < 0 ∧ s.size < n) := by omega
  clear h
  rcases h' with h | ⟨h, h1⟩ | ⟨h, h1, h2⟩ | ⟨h, h1, h2, h3⟩ <;>
    (go_enter Try.func56, Try.ntmps56
     go_wp2
     go_ret3
     exact ⟨rfl, rfl⟩)
theorem rNumber_cut (s : ByteArray) (n k : Int) (w : World) (hs : s.size ≤ maxLen) (h1 : 0 ≤ k ∧ k ≤ 8) (h2 : 0 ≤ n ∧ n ≤ s.size) (h3 : s.size - n < k) :
    Calls Try.prog 56 #[.string s, .int .i64 n, .int .i64 k] w fun e w' => e = .returned (.tuple #[.int .u64 0, .int .i64 0, .int .i64 2]) ∧ w = w' := by
  have hs' := hs
  unfold maxLen at hs'
  obtain ⟨h4, h5⟩ := h2
  obtain ⟨h6, h7⟩ := h1
  go_enter Try.func56, Try.ntmps56
  go_wp2
  go_ret3
  exact ⟨rfl, rfl⟩
end Go.Proofs.Ytljllfopgpmekab
