/- The contract of sandglasslaw02.live: it returns true. -/
import Derived.Test.YtefpgpehncllnabNums6
namespace Go.Proofs.Ytefpgpehncllnab
open Go.ChangeShapes Go.WideShapes Go.ChangeAt Go.RowKit
set_option linter.unusedVariables false

theorem calls_eq {P : Program} {f : Nat} {args : Array Value} {w : World} {v v' : Value} (h : Calls P f args w fun e w' => e = .returned v ∧ w = w') (hv : v = v') :
    Calls P f args w fun e w' => e = .returned v' ∧ w = w' := by subst hv; exact h
theorem calls_eqB {P : Program} {f : Nat} {args : Array Value} {w : World} {v v' : Value} (h : Calls P f args w fun e w' => e = .returned v ∧ Below w.heap.size w w') (hv : v = v') :
    Calls P f args w fun e w' => e = .returned v' ∧ Below w.heap.size w w' := by subst hv; exact h

theorem l1 (w : World) : Calls Try.prog 20 #[.string ⟨#[120, 1, 2, 121]⟩, .int .i64 1, .int .i64 2] w fun e w' => e = .returned (.tuple #[.int .u64 258, .int .i64 3, .int .i64 0]) ∧ w = w' :=
  calls_eq (Number_yes ⟨#[120, 1, 2, 121]⟩ 1 2 w (by unfold maxLen; decide) (by decide) (by decide)) (by rfl)
theorem l2 (w : World) : Calls Try.prog 20 #[.string ⟨#[97, 98, 99]⟩, .int .i64 2, .int .i64 2] w fun e w' => e = .returned (.tuple #[.int .u64 0, .int .i64 0, .int .i64 2]) ∧ w = w' :=
  Number_cut ⟨#[97, 98, 99]⟩ 2 2 w (by unfold maxLen; decide) (by decide) (by decide) (by decide)
theorem l3 (w : World) : Calls Try.prog 24 #[.string ⟨#[104, 105]⟩] w fun e w' => e = .returned (.tuple #[.string ⟨#[2, 104, 105]⟩, .bool true]) ∧ Below w.heap.size w w' :=
  calls_eqB (Put_yes ⟨#[104, 105]⟩ w (by decide)) (by kernel_rfl)
theorem l4 (w : World) : Calls Try.prog 26 #[.string ⟨#[122, 2, 104, 105]⟩, .int .i64 1] w fun e w' => e = .returned (.tuple #[.string ⟨#[104, 105]⟩, .int .i64 4, .int .i64 0]) ∧ w = w' :=
  calls_eq (Text_yes ⟨#[122, 2, 104, 105]⟩ w 1 (by unfold maxLen; decide) (by decide) (by decide)) (by kernel_rfl)
theorem l4' (w : World) : Calls Try.prog 26 #[.string (⟨#[122]⟩ ++ ⟨#[2, 104, 105]⟩), .int .i64 1] w fun e w' => e = .returned (.tuple #[.string ⟨#[104, 105]⟩, .int .i64 4, .int .i64 0]) ∧ w = w' := by
  have e : ((⟨#[122]⟩ : ByteArray) ++ (⟨#[2, 104, 105]⟩ : ByteArray)) = ⟨#[122, 2, 104, 105]⟩ := by kernel_rfl
  rw [e]; exact l4 w
theorem l5 (w : World) : Calls Try.prog 26 #[.string ⟨#[5, 97, 98]⟩, .int .i64 0] w fun e w' => e = .returned (.tuple #[.string ⟨#[]⟩, .int .i64 0, .int .i64 2]) ∧ w = w' :=
  Text_cut ⟨#[5, 97, 98]⟩ w 0 (by unfold maxLen; decide) (by decide) (by decide)
theorem l6 (w : World) : Calls Try.prog 18 #[.string ⟨#[1, 0]⟩] w fun e w' => e = .returned (.tuple #[.int .u64 256, .bool true]) ∧ w = w' :=
  calls_eq (Narrow_yes ⟨#[1, 0]⟩ w (by decide)) (by rfl)
theorem l7 (w : World) : Calls Try.prog 18 #[.string ⟨#[49, 50, 51, 52, 53, 54, 55, 56, 57]⟩] w fun e w' => e = .returned (.tuple #[.int .u64 0, .bool false]) ∧ w = w' :=
  Narrow_no _ w (by decide) (by unfold maxLen; decide)
theorem l8 (w : World) : Calls Try.prog 9 #[.int .u64 5, .int .u64 6, .int .u64 10] w fun e w' => e = .returned (.int .u64 10) ∧ w = w' :=
  calls_eq (Add_any 5 6 10 w (by unfold U64; omega) (by unfold U64; omega) (by unfold U64; omega)) (by rfl)
theorem l9 (w : World) : Calls Try.prog 9 #[.int .u64 5, .int .u64 6, .int .u64 12] w fun e w' => e = .returned (.int .u64 11) ∧ w = w' :=
  calls_eq (Add_any 5 6 12 w (by unfold U64; omega) (by unfold U64; omega) (by unfold U64; omega)) (by rfl)
theorem l10 (w : World) : Calls Try.prog 11 #[.int .u64 1099511627776, .int .u64 1099511627776, .int .u64 18446744073709551615] w fun e w' => e = .returned (.int .u64 18446744073709551615) ∧ w = w' :=
  calls_eq (Mul_any 1099511627776 1099511627776 18446744073709551615 w (by unfold U64; omega) (by unfold U64; omega) (by unfold U64; omega)) (by kernel_rfl)
theorem l11 (w : World) : Calls Try.prog 11 #[.int .u64 3, .int .u64 4, .int .u64 100] w fun e w' => e = .returned (.int .u64 12) ∧ w = w' :=
  calls_eq (Mul_any 3 4 100 w (by unfold U64; omega) (by unfold U64; omega) (by unfold U64; omega)) (by rfl)
theorem l12 (w : World) : Calls Try.prog 13 #[.int .u64 3, .int .u64 5] w fun e w' => e = .returned (.int .u64 0) ∧ w = w' :=
  calls_eq (Sub_any 3 5 w (by unfold U64; omega) (by unfold U64; omega)) (by rfl)
theorem l13 (w : World) : Calls Try.prog 13 #[.int .u64 5, .int .u64 3] w fun e w' => e = .returned (.int .u64 2) ∧ w = w' :=
  calls_eq (Sub_any 5 3 w (by unfold U64; omega) (by unfold U64; omega)) (by rfl)
theorem l14 (w : World) : Calls Try.prog 15 #[.int .u64 7, .int .u64 3] w fun e w' => e = .returned (.int .u64 3) ∧ w = w' :=
  calls_eq (Up_any 7 3 w (by unfold U64; omega) (by unfold U64; omega)) (by rfl)
theorem l15 (w : World) : Calls Try.prog 15 #[.int .u64 6, .int .u64 3] w fun e w' => e = .returned (.int .u64 2) ∧ w = w' :=
  calls_eq (Up_any 6 3 w (by unfold U64; omega) (by unfold U64; omega)) (by rfl)
theorem l16 (w : World) : Calls Try.prog 15 #[.int .u64 6, .int .u64 0] w fun e w' => e = .returned (.int .u64 0) ∧ w = w' :=
  calls_eq (Up_any 6 0 w (by unfold U64; omega) (by unfold U64; omega)) (by rfl)
theorem l17 (w : World) : Calls Try.prog 22 #[.int .u64 258, .int .i64 2] w fun e w' => e = .returned (.string ⟨#[1, 2]⟩) ∧ Below w.heap.size w w' :=
  calls_eqB (Wide_yes 258 2 w (by unfold U64; omega) (by omega)) (by kernel_rfl)
theorem l18 (w : World) : Calls Try.prog 22 #[.int .u64 1, .int .i64 9] w fun e w' => e = .returned (.string ⟨#[]⟩) ∧ w = w' :=
  Wide_no 1 9 w (by omega)

set_option maxRecDepth 100000 in
set_option maxHeartbeats 1000000 in
theorem live_any (w : World) : Calls Try.prog 17 #[] w fun e w' => e = .returned (.bool true) ∧ Below w.heap.size w w' := by
  go_enter Try.func17, Try.ntmps17
  go_wp2_with fail
  refine (l1 _).mono ?_; rintro e w' ⟨rfl, rfl⟩
  go_wp2_with fail
  refine (l2 _).mono ?_; rintro e w' ⟨rfl, rfl⟩
  go_wp2_with fail
  refine (l3 _).mono ?_; rintro e w1 ⟨rfl, hb1⟩
  go_wp2_with fail
  refine (l4' _).mono ?_; rintro e w' ⟨rfl, rfl⟩
  go_wp2_with fail
  refine (l5 _).mono ?_; rintro e w' ⟨rfl, rfl⟩
  go_wp2_with fail
  refine (l6 _).mono ?_; rintro e w' ⟨rfl, rfl⟩
  go_wp2_with fail
  refine (l7 _).mono ?_; rintro e w' ⟨rfl, rfl⟩
  go_wp2_with fail
  refine (l8 _).mono ?_; rintro e w' ⟨rfl, rfl⟩
  go_wp2_with fail
  refine (l9 _).mono ?_; rintro e w' ⟨rfl, rfl⟩
  go_wp2_with fail
  refine (l10 _).mono ?_; rintro e w' ⟨rfl, rfl⟩
  go_wp2_with fail
  refine (l11 _).mono ?_; rintro e w' ⟨rfl, rfl⟩
  go_wp2_with fail
  refine (l12 _).mono ?_; rintro e w' ⟨rfl, rfl⟩
  go_wp2_with fail
  refine (l13 _).mono ?_; rintro e w' ⟨rfl, rfl⟩
  go_wp2_with fail
  refine (l14 _).mono ?_; rintro e w' ⟨rfl, rfl⟩
  go_wp2_with fail
  refine (l15 _).mono ?_; rintro e w' ⟨rfl, rfl⟩
  go_wp2_with fail
  refine (l16 _).mono ?_; rintro e w' ⟨rfl, rfl⟩
  go_wp2_with fail
  refine (l17 _).mono ?_; rintro e w2 ⟨rfl, hb2⟩
  go_wp2_with fail
  refine (l18 _).mono ?_; rintro e w' ⟨rfl, rfl⟩
  go_wp2
  go_ret
  exact ⟨rfl, hb1.trans (hb2.mono hb1.size)⟩
end Go.Proofs.Ytefpgpehncllnab
