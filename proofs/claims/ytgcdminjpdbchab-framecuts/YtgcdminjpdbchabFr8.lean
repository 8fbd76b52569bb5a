/- The law's own: all, few, same. -/
import Derived.Test.YtgcdminjpdbchabFr7
import Derived.Test.YtgcdminjpdbchabStrs
import Derived.BigQuiet
namespace Go.Proofs.Ytgcdminjpdbchab
open Go.ChangeShapes Go.WideShapes Go.ChangeAt Go.RowKit
set_option linter.unusedVariables false

theorem all_any (A : Option Addr) (len cap : Nat) (L : Nat → ByteArray) (w : World) (h : StrsAt w A len cap L) (hl : len ≤ 40) (hL : ∀ i, i < len → (L i).size ≤ 4000) : Calls Try.prog 14 #[.slice A len cap] w fun e w' => e = .returned (.string (catS L len)) ∧ w = w' := by
  obtain ⟨q1, q2, q3⟩ := h
  unfold maxLen at q2
  have HQ := Lib.hid q3
  have HL := Lib.hid hL
  clear q3 hL
  go_enter Try.func14, Try.ntmps14
  go_wp2
  go_loop [3, 4] (fun s i => ∃ j : Nat, j ≤ len ∧ s = .string (catS L j) ∧ i = .int .i64 (j : Int)) (fun _ i => len - (intOf i).toNat)
  case atStart => exact ⟨0, Nat.zero_le _, rfl, rfl⟩
  case round =>
    obtain ⟨j, hj, rfl, rfl⟩ := hrel
    by_cases hlt : j < len
    · obtain ⟨b, off, rfl, hb, hall⟩ := HQ.out (by omega)
      have c1 := (hall j hlt).1
      have z1 := HL.out j hlt
      have z2 := catS_most L 4000 j (fun i hi => HL.out i (by omega))
      have z3 : ¬ 9223372036854775807 < (catS L j).size + (L j).size := by omega
      clear hall hb
      go_wp2
      go_round
      case rel => exact ⟨j + 1, by omega, rfl, by go_num⟩
      case measure => simp [intOf]; omega
    · obtain rfl : j = len := by omega
      go_wp2
      go_ret
      exact ⟨rfl, rfl⟩
theorem few_any (A : Option Addr) (len cap : Nat) (L : Nat → ByteArray) (w : World) (h : StrsAt w A len cap L) (hl : len ≤ 40) (hL : ∀ i, i < len → (L i).size ≤ 4000) : Calls Try.prog 7 #[.slice A len cap] w fun e w' => e = .returned (.bool (decide ((catS L len).size ≤ 4000))) ∧ w = w' := by
  have HA := Lib.hid (all_any A len cap L w h hl hL)
  have z2 := catS_most L 4000 len hL
  obtain ⟨q1, q2, _⟩ := h
  unfold maxLen at q2
  have d1 : decide ((len : Int) ≤ 40) = true := decide_eq_true (by omega)
  have d2 : (len : Int) ≤ 40 := by omega
  generalize catS L len = s at HA z2 ⊢
  clear hL
  go_enter Try.func7, Try.ntmps7
  go_wp2_with (first | (go_at_call 14; refine HA.out.mono ?_; rintro e w1 ⟨rfl, rfl⟩))
  go_ret
  exact ⟨by simp; omega, rfl⟩
/-- Of rows alike same tells true. -/
theorem same_yes (A B : Option Addr) (n c d : Nat) (l : List (ByteArray × Int)) (w : World) (hl : l.length = n) (hn : n ≤ 100000) (h1 : PrAt w A l) (h2 : PrAt w B l) : Calls Try.prog 10 #[.slice A n c, .slice B n d] w fun e w' => e = .returned (.bool true) ∧ ∃ m, w' = w.drewN m := by
  have H1 := Lib.hid h1
  have H2 := Lib.hid h2
  clear h1 h2
  go_enter Try.func10, Try.ntmps10
  go_wp2_with fail
  go_loopw [5] (fun i wr => ∃ j : Nat, j ≤ n ∧ i = .int .i64 (j : Int) ∧ ∃ m, wr = w.drewN m) (fun i _ => n - (intOf i).toNat)
  case atStart => exact ⟨0, Nat.zero_le _, rfl, 0, rfl⟩
  case round =>
    obtain ⟨j, hj, rfl, m, hw⟩ := hrel
    by_cases hlt : j < n
    · obtain ⟨b1, o1, rfl, _, q1⟩ := H1.out (by omega)
      obtain ⟨b2, o2, rfl, _, q2⟩ := H2.out (by omega)
      have q1 := q1 j _ (List.getElem?_eq_getElem (by omega))
      have q2 := q2 j _ (List.getElem?_eq_getElem (by omega))
      have x1 : wr.cell? ⟨b1, o1 + j * 2, none⟩ = some (.string l[j].1) := by rw [hw]; exact q1.1
      have x2 : wr.cell? ⟨b1, o1 + j * 2 + 1, none⟩ = some (.int .i64 l[j].2) := by rw [hw]; exact q1.2
      have x3 : wr.cell? ⟨b2, o2 + j * 2, none⟩ = some (.string l[j].1) := by rw [hw]; exact q2.1
      have x4 : wr.cell? ⟨b2, o2 + j * 2 + 1, none⟩ = some (.int .i64 l[j].2) := by rw [hw]; exact q2.2
      generalize l[j].1 = s at x1 x3
      generalize l[j].2 = z at x2 x4
      have HW := Lib.hid hw
      clear q1 q2 hw
      go_wp2_with fail
      go_quiet (fail)
      go_wp2
      go_roundw
      case rel => exact ⟨j + 1, by omega, by go_num, _, by rw [HW.out, World.drewN_drewN]⟩
      case measure => simp [intOf]; omega
    · go_wp2
      go_ret
      exact ⟨rfl, m, rfl⟩
end Go.Proofs.Ytgcdminjpdbchab
