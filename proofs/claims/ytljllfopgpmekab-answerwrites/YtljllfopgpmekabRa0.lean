/- The document's own: whether a number fits, numbers and policies as bytes. -/
import Derived.Test.YtljllfopgpmekabNums6
import Derived.Test.YtljllfopgpmekabAn0
import Derived.Test.YtljllfopgpmekabWb1
import Derived.Deep.RegionHeld3
import Derived.WalkSmall
-- prune
namespace Go.Proofs.Ytljllfopgpmekab
open Go.ChangeShapes Go.WideShapes Go.ChangeAt Go.RowKit
set_option linter.unusedVariables false

theorem pow_bd (j : Nat) (hj : j ≤ 6) : 256 ^ j ≤ 281474976710656 := Nat.pow_le_pow_right (show 0 < 256 by decide) hj
set_option maxRecDepth 100000 in
theorem Fits_any (n : Int) (k : Nat) (hk : k ≤ 6) (w : World) : Calls Try.prog 36 #[.int .i64 n, .int .i64 k] w fun e w' => e = .returned (.bool (decide (Fit n k))) ∧ w = w' := by
  go_enter Try.func36, Try.ntmps36
  go_wp2_with fail
  go_loop [5, 6] (fun m i => ∃ (j p : Nat), j ≤ k ∧ i = .int .i64 j ∧ m = .int .i64 p ∧ p = 256 ^ j) (fun _ i => k - (intOf i).toNat)
  case atStart => exact ⟨0, 1, Nat.zero_le _, rfl, rfl, rfl⟩
  case round =>
    obtain ⟨j, p, hj, rfl, rfl, hp⟩ := hrel
    have HP := Lib.hid hp
    have pb : p ≤ 281474976710656 := by rw [hp]; exact pow_bd j (by omega)
    clear hp
    by_cases hlt : j < k
    · go_wp2
      go_round
      case rel => exact ⟨j + 1, 256 * p, by omega, by go_num, by go_num, by rw [HP.out, Nat.pow_succ, Nat.mul_comm]⟩
      case measure => simp [intOf]; omega
    · obtain rfl : j = k := by omega
      have E := Lib.hid (show Fit n j ↔ (0 ≤ n ∧ n < (p : Int)) by unfold Fit; rw [HP.out])
      by_cases h0 : 0 ≤ n
      · by_cases h1 : n < (p : Int)
        · go_wp2
          go_ret
          exact ⟨ret_bool (by simp [E.out, h0, h1]), rfl⟩
        · go_wp2
          go_ret
          exact ⟨ret_bool (by simp [E.out, h1]), rfl⟩
      · go_wp2
        go_ret
        exact ⟨ret_bool (by simp [E.out]; omega), rfl⟩
theorem fits2_any (n : Int) (k : Nat) (hk : k ≤ 6) (w : World) : Calls Try.prog 47 #[.int .i64 n, .int .i64 k] w fun e w' => e = .returned (.bool (decide (Fit n k))) ∧ w = w' := by
  have H := Lib.hid (Fits_any n k hk w)
  go_enter Try.func47, Try.ntmps47
  go_wp2_with fail
  refine H.out.mono ?_
  rintro e w1 ⟨rfl, rfl⟩
  go_wp2
  go_ret
  exact ⟨rfl, rfl⟩
/-- Bytes that a call tells. -/
def TellsS (l : List UInt8) (w : World) (e : Ending) (w' : World) : Prop := ∃ s : ByteArray, e = .returned (.string s) ∧ s.data.toList = l ∧ Below w.heap.size w w'
theorem rw_any (n : Int) (k : Nat) (hk : k ≤ 8) (w : World) : Calls Try.prog 52 #[.int .u64 (IntKind.u64.wrap n), .int .i64 k] w (TellsS (nB n k) w) := by
  refine (rWide_yes (IntKind.u64.wrap n) k w (u64_wrap n) hk).mono ?_
  rintro e w' ⟨rfl, hb⟩
  exact ⟨_, rfl, by simp [nB], hb⟩
theorem wide2_any (n : Int) (k : Nat) (hk : k ≤ 8) (w : World) : Calls Try.prog 43 #[.int .i64 n, .int .i64 k] w (TellsS (nB n k) w) := by
  have H := Lib.hid (rw_any n k hk w)
  go_enter Try.func43, Try.ntmps43
  go_wp2_with fail
  refine H.out.mono ?_
  rintro e w1 ⟨s, rfl, hs, hb⟩
  have R := Lib.hid (And.intro hs hb)
  clear hs hb
  go_wp2
  go_ret
  exact ⟨s, rfl, R.out⟩
theorem byte1_any (n : Int) (w : World) : Calls Try.prog 29 #[.int .i64 n] w (TellsS (nB n 1) w) := by
  have H := Lib.hid (rw_any n 1 (by decide) w)
  go_enter Try.func29, Try.ntmps29
  go_wp2_with fail
  refine H.out.mono ?_
  rintro e w1 ⟨s, rfl, hs, hb⟩
  have R := Lib.hid (And.intro hs hb)
  clear hs hb
  go_wp2
  go_ret
  exact ⟨s, rfl, R.out⟩
theorem four_any (n : Int) (w : World) : Calls Try.prog 53 #[.int .i64 n] w (TellsS (nB n 4) w) := by
  have H := Lib.hid (rw_any n 4 (by decide) w)
  go_enter Try.func53, Try.ntmps53
  go_wp2_with fail
  refine H.out.mono ?_
  rintro e w1 ⟨s, rfl, hs, hb⟩
  have R := Lib.hid (And.intro hs hb)
  clear hs hb
  go_wp2
  go_ret
  exact ⟨s, rfl, R.out⟩
end Go.Proofs.Ytljllfopgpmekab
