/- What the statements' own live tells. -/
import Derived.Test.YtdchoaihbjmpbaaDoorHashTab
namespace Go.Proofs.YtdchoaihbjmpbaaDoor
open Go.ChangeShapes Go.WideShapes Go.ChangeAt Go.RowKit
set_option linter.unusedVariables false

theorem u_small (n : Nat) (h : n < 18446744073709551616) : U n := h
theorem mix_zero : mixN 0 = 0 := by unfold mixN sx; simp only [mulW_eq]; decide +kernel
theorem mix_one : mixN 1 = 14555800124870461561 := by unfold mixN sx; simp only [mulW_eq]; decide +kernel
theorem unmix_zero : unmixN 0 = 0 := by unfold unmixN us; simp only [mulW_eq]; decide +kernel
theorem sum_zero : sumN 0 [] = 0 := by unfold sumN runN; simp only [List.foldl_nil, List.length_nil, mix_zero]; exact mix_zero
theorem Mix0 (w : World) (ht : TabW w) : Calls Tryd.prog 16 #[.int .u64 0] w fun e w' => e = .returned (.int .u64 0) ∧ Drew w w' := by
  have h := Mix_go 0 0 w rfl (u_small _ (by decide)) ht
  rw [mix_zero] at h
  exact h
theorem Mix1 (w : World) (ht : TabW w) : Calls Tryd.prog 16 #[.int .u64 1] w fun e w' => e = .returned (.int .u64 14555800124870461561) ∧ Drew w w' := by
  have h := Mix_go 1 1 w rfl (u_small _ (by decide)) ht
  rw [mix_one] at h
  exact h
theorem Unmix_go (a : Int) (n : Nat) (w : World) (e : a = n) (hn : U n) (ht : TabW w) : Calls Tryd.prog 18 #[.int .u64 a] w fun e w' => e = .returned (.int .u64 (unmixN n : Nat)) ∧ Drew w w' := by
  subst e; exact Unmix_any n w hn ht
theorem Unmix0 (w : World) (ht : TabW w) : Calls Tryd.prog 18 #[.int .u64 0] w fun e w' => e = .returned (.int .u64 0) ∧ Drew w w' := by
  have h := Unmix_go 0 0 w rfl (u_small _ (by decide)) ht
  rw [unmix_zero] at h
  exact h
theorem Sum0 (w : World) (ht : TabW w) : Calls Tryd.prog 10 #[.int .u64 0, .string .empty] w fun e w' => e = .returned (.int .u64 0) ∧ Drew w w' := by
  have h := Sum_go 0 0 .empty w rfl (by decide) (u_small _ (by decide)) ht
  rw [show (ByteArray.empty).data.toList = [] from rfl, sum_zero] at h
  exact h
theorem Home_go (a : Int) (n : Nat) (b : Int) (w : World) (e : a = n) (hn : U n) :
    Calls Tryd.prog 14 #[.int .u64 a, .int .i64 b] w fun e w' => e = .returned (.int .i64 (homeI n b)) ∧ w = w' := by
  subst e; exact Home_any n b w hn
theorem Home1 (w : World) : Calls Tryd.prog 14 #[.int .u64 9223372036854775808, .int .i64 1] w fun e w' => e = .returned (.int .i64 1) ∧ w = w' := by
  have h := Home_go 9223372036854775808 9223372036854775808 1 w rfl (u_small _ (by decide))
  rw [show homeI 9223372036854775808 1 = 1 by decide +kernel] at h
  exact h
theorem Home63 (w : World) : Calls Tryd.prog 14 #[.int .u64 9223372036854775808, .int .i64 63] w fun e w' => e = .returned (.int .i64 0) ∧ w = w' := by
  have h := Home_go 9223372036854775808 9223372036854775808 63 w rfl (u_small _ (by decide))
  rw [homeI_out _ _ (by decide)] at h
  exact h
theorem Home0 (w : World) : Calls Tryd.prog 14 #[.int .u64 9223372036854775808, .int .i64 0] w fun e w' => e = .returned (.int .i64 0) ∧ w = w' := by
  have h := Home_go 9223372036854775808 9223372036854775808 0 w rfl (u_small _ (by decide))
  rw [homeI_out _ _ (by decide)] at h
  exact h

set_option maxRecDepth 100000 in
theorem live_any (w : World) (ht : TabW w) : Calls Tryd.prog 9 #[] w fun e w' => e = .returned (.bool true) ∧ Drew w w' := by
  have HT := Lib.hid ht
  clear ht
  go_enter Tryd.func9, Tryd.ntmps9
  go_wp2_with fail
  refine (Mix0 _ HT.out).mono ?_
  rintro e w1 ⟨rfl, hd⟩
  have D1 := Lib.hid hd
  clear hd
  go_wp2_with fail
  refine (Unmix0 _ (D1.out.tab HT.out)).mono ?_
  rintro e w2 ⟨rfl, hd⟩
  have D2 := Lib.hid (D1.out.trans hd)
  clear hd
  go_wp2_with fail
  refine (Sum0 _ (D2.out.tab HT.out)).mono ?_
  rintro e w3 ⟨rfl, hd⟩
  have D3 := Lib.hid (D2.out.trans hd)
  clear hd
  go_wp2_with fail
  refine (Home1 _).mono ?_
  rintro e w4 ⟨rfl, rfl⟩
  go_wp2_with fail
  refine (Home63 _).mono ?_
  rintro e w4 ⟨rfl, rfl⟩
  go_wp2_with fail
  refine (Home0 _).mono ?_
  rintro e w4 ⟨rfl, rfl⟩
  go_wp2_with fail
  refine (Mix1 _ (D3.out.tab HT.out)).mono ?_
  rintro e w5 ⟨rfl, hd⟩
  have D4 := Lib.hid (D3.out.trans hd)
  clear hd
  go_wp2
  go_ret
  exact ⟨rfl, D4.out⟩
theorem eqb {p q : Nat} {a b : Int} (h : p = q ↔ a = b) : ((p : Int) == (q : Int)) = (a == b) := by
  rw [Bool.eq_iff_iff, beq_iff_eq, beq_iff_eq, ← h]; omega
end Go.Proofs.YtdchoaihbjmpbaaDoor
