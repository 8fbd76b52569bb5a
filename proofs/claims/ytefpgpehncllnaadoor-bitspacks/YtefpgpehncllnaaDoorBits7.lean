/- The contracts of the document's own answers: sandglassref01.bit, there, Get, Next, Count, Same. -/
import Derived.Test.YtefpgpehncllnaaDoorBits6
namespace Go.Proofs.YtefpgpehncllnaaDoor
open Go.ChangeShapes Go.WideShapes Go.ChangeAt Go.RowKit
set_option linter.unusedVariables false

theorem one_bit (ns : List Nat) (ha : AllW ns) (i : Nat) : bits BinOp.and IntKind.u64 (((ns.getD (i / 64) 0 : Nat) : Int) / 2 ^ (i % 64)) 1 = ((bitAt ns i).toNat : Int) := by
  rw [shr_nat, show (1 : Int) = ((1 : Nat) : Int) from rfl, bits_and_u64_nat _ 1 (shr_lt _ (ha.at_ _)) (by decide)]
  rw [Nat.and_one_is_mod, Nat.shiftRight_eq_div_pow, ← Nat.toNat_testBit]
  rfl
theorem rbit_any (A : Option Addr) (len cap : Nat) (ns : List Nat) (i : Nat) (w : World) (hl : len ≤ 1000) (hc : len ≤ cap) (hw : Words w A len ns) (hi : i < 64 * len) :
    Calls Tryd.prog 27 #[.slice A len cap, .int .i64 i] w fun e w' => e = .returned (.int .u64 ((bitAt ns i).toNat : Nat)) ∧ w = w' := by
  obtain ⟨h1, ha, h3⟩ := hw
  obtain ⟨b, off, rfl, hlt, hcell⟩ := h3 (by omega)
  have c0 := hcell (i / 64) (by omega)
  have E := Lib.hid (one_bit ns ha i)
  generalize ns.getD (i / 64) 0 = a at *
  clear hcell h3
  go_enter Tryd.func27, Tryd.ntmps27
  go_wp2
  go_ret
  exact ⟨ret_int E.out, rfl⟩
theorem rthere_yes (A : Option Addr) (len cap : Nat) (p k : Int) (w : World) (hl : len ≤ 1000) (h : InField len p k) :
    Calls Tryd.prog 26 #[.slice A len cap, .int .i64 p, .int .i64 k] w fun e w' => e = .returned (.bool true) ∧ w = w' := by
  unfold InField at h
  obtain ⟨h0, h1, h2, h3⟩ := h
  have h4 : p ≤ 64 * (len : Int) := by omega
  go_enter Tryd.func26, Tryd.ntmps26
  go_wp2
  go_ret
  exact ⟨ret_bool (by simp; omega), rfl⟩
theorem rthere_no (A : Option Addr) (len cap : Nat) (p k : Int) (w : World) (hl : len ≤ 1000) (h : ¬ InField len p k) :
    Calls Tryd.prog 26 #[.slice A len cap, .int .i64 p, .int .i64 k] w fun e w' => e = .returned (.bool false) ∧ w = w' := by
  unfold InField at h
  have h' : ¬ 0 ≤ p ∨ (0 ≤ p ∧ ¬ 0 ≤ k) ∨ (0 ≤ p ∧ 0 ≤ k ∧ ¬ k ≤ 64) ∨ (0 ≤ p ∧ 0 ≤ k ∧ k ≤ 64 ∧ ¬ p ≤ 64 * (len : Int)) ∨ (0 ≤ p ∧ 0 ≤ k ∧ k ≤ 64 ∧ p ≤ 64 * (len : Int) ∧ ¬ k ≤ 64 * (len : Int) - p) := by omega
  clear h
  rcases h' with h0 | ⟨h0, h1⟩ | ⟨h0, h1, h2⟩ | ⟨h0, h1, h2, h3⟩ | ⟨h0, h1, h2, h3, h4⟩
  · go_enter Tryd.func26, Tryd.ntmps26
    go_wp2
    go_ret
    exact ⟨rfl, rfl⟩
  · go_enter Tryd.func26, Tryd.ntmps26
    go_wp2
    go_ret
    exact ⟨rfl, rfl⟩
  · go_enter Tryd.func26, Tryd.ntmps26
    go_wp2
    go_ret
    exact ⟨rfl, rfl⟩
  · go_enter Tryd.func26, Tryd.ntmps26
    go_wp2
    go_ret
    exact ⟨rfl, rfl⟩
  · go_enter Tryd.func26, Tryd.ntmps26
    go_wp2
    go_ret
    exact ⟨ret_bool (by first | (simp; done) | (simp; omega)), rfl⟩

theorem fld_step (ns : List Nat) (p k i : Nat) (h : i < k) : fld ns (p + i) (k - i) = (bitAt ns (p + i)).toNat + 2 * fld ns (p + (i + 1)) (k - (i + 1)) := by
  unfold fld
  rw [show k - i = (k - (i + 1)) + 1 by omega]
  simp only [mkBits, Nat.add_zero]
  congr 3
  funext j
  rw [show p + i + (j + 1) = p + (i + 1) + j by omega]
theorem rget_val {x b : Nat} (h : b + 2 * x < 18446744073709551616) : IntKind.u64.wrap (IntKind.u64.wrap (2 * (x : Int)) + (b : Int)) = ((b + 2 * x : Nat) : Int) := by
  rw [wrapU, wrapU]; omega

theorem rGet_yes (A : Option Addr) (len cap : Nat) (ns : List Nat) (p k : Nat) (w : World) (hl : len ≤ 1000) (hc : len ≤ cap) (hw : Words w A len ns) (hk : k ≤ 64) (hp : p + k ≤ 64 * len) :
    Calls Tryd.prog 12 #[.slice A len cap, .int .i64 p, .int .i64 k] w fun e w' => e = .returned (.tuple #[.int .u64 ((fld ns p k : Nat) : Int), .bool true]) ∧ w = w' := by
  have HW := Lib.hid hw
  clear hw
  go_enter Tryd.func12, Tryd.ntmps12
  go_wp2_with (first | (go_at_call 26; refine (rthere_yes _ _ _ _ _ _ hl (by unfold InField; omega)).mono ?_; rintro e w' ⟨rfl, rfl⟩))
  go_loop [8, 9] (fun n iv => ∃ i : Nat, i ≤ k ∧ iv = .int .i64 ((i : Int) - 1) ∧ n = .int .u64 (fld ns (p + i) (k - i) : Nat)) (fun _ i => (intOf i + 1).toNat)
  case atStart => exact ⟨k, Nat.le_refl _, rfl, by rw [Nat.sub_self]; rfl⟩
  case round =>
    obtain ⟨i, hi, rfl, rfl⟩ := hrel
    by_cases hlt : i = 0
    · subst hlt
      go_wp2
      go_ret2
      exact ⟨ret2 (by simp), rfl⟩
    · obtain ⟨q, rfl⟩ : ∃ q, i = q + 1 := ⟨i - 1, by omega⟩
      rw [show ((q + 1 : Nat) : Int) - 1 = (q : Int) by omega]
      have E := Lib.hid (fld_step ns p k q (by omega))
      have hlt2 : fld ns (p + q) (k - q) < 18446744073709551616 := fld_u (by omega)
      have E2 := Lib.hid (rget_val (x := fld ns (p + (q + 1)) (k - (q + 1))) (b := (bitAt ns (p + q)).toNat) (by rw [← E.out]; exact hlt2))
      clear hlt2
      go_wp2_with (first | (go_at_call 27; refine (rbit_any A len cap ns (p + q) _ hl hc HW.out (by omega)).mono ?_; rintro e w' ⟨rfl, rfl⟩))
      go_round
      case rel => exact ⟨q, by omega, rfl, val_int (by rw [E.out]; exact E2.out)⟩
      case measure => simp [intOf]
theorem rGet_no (A : Option Addr) (len cap : Nat) (p k : Int) (w : World) (hl : len ≤ 1000) (h : ¬ InField len p k) :
    Calls Tryd.prog 12 #[.slice A len cap, .int .i64 p, .int .i64 k] w fun e w' => e = .returned (.tuple #[.int .u64 0, .bool false]) ∧ w = w' := by
  go_enter Tryd.func12, Tryd.ntmps12
  go_wp2_with (first | (go_at_call 26; refine (rthere_no _ _ _ _ _ _ hl h).mono ?_; rintro e w' ⟨rfl, rfl⟩))
  go_ret2
  exact ⟨rfl, rfl⟩

theorem rCount_any (A : Option Addr) (len cap : Nat) (ns : List Nat) (w : World) (hl : len ≤ 1000) (hc : len ≤ cap) (hw : Words w A len ns) :
    Calls Tryd.prog 19 #[.slice A len cap] w fun e w' => e = .returned (.int .i64 (cnt ns (64 * len) : Nat)) ∧ w = w' := by
  have HW := Lib.hid hw
  clear hw
  go_enter Tryd.func19, Tryd.ntmps19
  go_wp2
  go_loop [3, 4] (fun n i => ∃ j : Nat, j ≤ 64 * len ∧ i = .int .i64 j ∧ n = .int .i64 (cnt ns j : Nat)) (fun _ i => 64 * len - (intOf i).toNat)
  case atStart => exact ⟨0, Nat.zero_le _, rfl, rfl⟩
  case round =>
    obtain ⟨j, hj, rfl, rfl⟩ := hrel
    have hb := cnt_le ns j
    by_cases hlt : j < 64 * len
    · have E := Lib.hid (show cnt ns (j + 1) = cnt ns j + (bitAt ns j).toNat from rfl)
      have hb1 := Bool.toNat_le (bitAt ns j)
      go_wp2_with (first | (go_at_call 27; refine (rbit_any A len cap ns j _ hl hc HW.out hlt).mono ?_; rintro e w' ⟨rfl, rfl⟩))
      go_round
      case rel => exact ⟨j + 1, by omega, by go_num, val_int (by rw [E.out]; omega)⟩
      case measure => simp [intOf]; omega
    · go_wp2
      go_ret
      exact ⟨ret_int (by rw [show j = 64 * len by omega]), rfl⟩

theorem nextFrom_hit (ns : List Nat) (i k : Nat) (h : bitAt ns i = true) : nextFrom ns i (k + 1) = (i, true) := by simp [nextFrom, h]
theorem nextFrom_miss (ns : List Nat) (i k : Nat) (h : bitAt ns i = false) : nextFrom ns i (k + 1) = nextFrom ns (i + 1) k := by simp [nextFrom, h]

theorem rNext_nat (A : Option Addr) (len cap : Nat) (ns : List Nat) (f : Nat) (w : World) (hl : len ≤ 1000) (hc : len ≤ cap) (hw : Words w A len ns) (hp2 : f < 9223372036854775808) :
    Calls Tryd.prog 17 #[.slice A len cap, .int .i64 f] w fun e w' => e = .returned (.tuple #[.int .i64 ((nextN ns f).1 : Nat), .bool (nextN ns f).2]) ∧ w = w' := by
  have HW := Lib.hid hw
  have hns := hw.1
  have E0 := Lib.hid (show nextN ns f = nextFrom ns f (64 * len - f) by unfold nextN; rw [hns])
  clear hw hns
  go_enter Tryd.func17, Tryd.ntmps17
  go_wp2
  go_loop [6] (fun iv => ∃ i : Nat, iv = .int .i64 i ∧ i ≤ f + 64 * len ∧ i < 9223372036854775808 ∧ nextN ns f = nextFrom ns i (64 * len - i)) (fun i => 64 * len - (intOf i).toNat)
  case atStart => exact ⟨f, by simp, by omega, by omega, E0.out⟩
  case round =>
    obtain ⟨i, rfl, hi, hi2, he⟩ := hrel
    have HE := Lib.hid he
    clear he
    by_cases hlt : i < 64 * len
    · cases hb : bitAt ns i with
      | true =>
        have C := Lib.hid (rbit_any A len cap ns i w hl hc HW.out hlt)
        rw [hb] at C
        have E := Lib.hid (show nextN ns f = (i, true) by rw [HE.out, show 64 * len - i = (64 * len - i - 1) + 1 by omega]; exact nextFrom_hit ns i _ hb)
        clear hb
        go_wp2_with (first | (go_at_call 27; refine C.out.mono ?_; rintro e w' ⟨rfl, rfl⟩))
        go_ret2
        exact ⟨fst_eq E.out rfl, rfl⟩
      | false =>
        have C := Lib.hid (rbit_any A len cap ns i w hl hc HW.out hlt)
        rw [hb] at C
        have E := Lib.hid (show nextN ns f = nextFrom ns (i + 1) (64 * len - (i + 1)) by rw [HE.out, show 64 * len - i = (64 * len - (i + 1)) + 1 by omega]; exact nextFrom_miss ns i _ hb)
        clear hb
        go_wp2_with (first | (go_at_call 27; refine C.out.mono ?_; rintro e w' ⟨rfl, rfl⟩))
        go_round
        case rel => exact ⟨i + 1, by go_num, by omega, by omega, E.out⟩
        case measure => simp [intOf]; omega
    · have E := Lib.hid (show nextN ns f = (0, false) by rw [HE.out, show 64 * len - i = 0 by omega]; rfl)
      go_wp2
      go_ret2
      exact ⟨fst_eq E.out rfl, rfl⟩
theorem rNext_neg (A : Option Addr) (len cap : Nat) (ns : List Nat) (p : Int) (w : World) (hl : len ≤ 1000) (hc : len ≤ cap) (hw : Words w A len ns) (hp2 : p < 0) :
    Calls Tryd.prog 17 #[.slice A len cap, .int .i64 p] w fun e w' => e = .returned (.tuple #[.int .i64 ((nextN ns 0).1 : Nat), .bool (nextN ns 0).2]) ∧ w = w' := by
  have HW := Lib.hid hw
  have hns := hw.1
  have E0 := Lib.hid (show nextN ns 0 = nextFrom ns 0 (64 * len - 0) by unfold nextN; rw [hns])
  clear hw hns
  go_enter Tryd.func17, Tryd.ntmps17
  go_wp2
  go_loop [6] (fun iv => ∃ i : Nat, iv = .int .i64 i ∧ i ≤ 0 + 64 * len ∧ i < 9223372036854775808 ∧ nextN ns 0 = nextFrom ns i (64 * len - i)) (fun i => 64 * len - (intOf i).toNat)
  case atStart => exact ⟨0, by simp, by omega, by omega, E0.out⟩
  case round =>
    obtain ⟨i, rfl, hi, hi2, he⟩ := hrel
    have HE := Lib.hid he
    clear he
    by_cases hlt : i < 64 * len
    · cases hb : bitAt ns i with
      | true =>
        have C := Lib.hid (rbit_any A len cap ns i w hl hc HW.out hlt)
        rw [hb] at C
        have E := Lib.hid (show nextN ns 0 = (i, true) by rw [HE.out, show 64 * len - i = (64 * len - i - 1) + 1 by omega]; exact nextFrom_hit ns i _ hb)
        clear hb
        go_wp2_with (first | (go_at_call 27; refine C.out.mono ?_; rintro e w' ⟨rfl, rfl⟩))
        go_ret2
        exact ⟨fst_eq E.out rfl, rfl⟩
      | false =>
        have C := Lib.hid (rbit_any A len cap ns i w hl hc HW.out hlt)
        rw [hb] at C
        have E := Lib.hid (show nextN ns 0 = nextFrom ns (i + 1) (64 * len - (i + 1)) by rw [HE.out, show 64 * len - i = (64 * len - (i + 1)) + 1 by omega]; exact nextFrom_miss ns i _ hb)
        clear hb
        go_wp2_with (first | (go_at_call 27; refine C.out.mono ?_; rintro e w' ⟨rfl, rfl⟩))
        go_round
        case rel => exact ⟨i + 1, by go_num, by omega, by omega, E.out⟩
        case measure => simp [intOf]; omega
    · have E := Lib.hid (show nextN ns 0 = (0, false) by rw [HE.out, show 64 * len - i = 0 by omega]; rfl)
      go_wp2
      go_ret2
      exact ⟨fst_eq E.out rfl, rfl⟩

theorem rNext_any (A : Option Addr) (len cap : Nat) (ns : List Nat) (p : Int) (w : World) (hl : len ≤ 1000) (hc : len ≤ cap) (hw : Words w A len ns) (hp : p < 9223372036854775808) :
    Calls Tryd.prog 17 #[.slice A len cap, .int .i64 p] w fun e w' => e = .returned (.tuple #[.int .i64 ((nextN ns p.toNat).1 : Nat), .bool (nextN ns p.toNat).2]) ∧ w = w' := by
  by_cases h : p < 0
  · rw [show p.toNat = 0 by omega]; exact rNext_neg A len cap ns p w hl hc hw h
  · obtain ⟨f, rfl⟩ := Int.eq_ofNat_of_zero_le (show 0 ≤ p by omega)
    exact rNext_nat A len cap ns f w hl hc hw (by omega)

theorem Same_yes (A A2 : Option Addr) (len cap cap2 : Nat) (ns : List Nat) (w : World) (hl : len ≤ 1000) (hc : len ≤ cap) (hc2 : len ≤ cap2) (hw : Words w A len ns) (hw2 : Words w A2 len ns) :
    Calls Tryd.prog 15 #[.slice A len cap, .slice A2 len cap2] w fun e w' => e = .returned (.bool true) ∧ Below w.heap.size w w' := by
  have HW := Lib.hid hw
  have HW2 := Lib.hid hw2
  clear hw hw2
  go_enter Tryd.func15, Tryd.ntmps15
  go_wp2
  go_loopw [5] (fun i wr => ∃ j : Nat, j ≤ len ∧ i = .int .i64 j ∧ ∃ n, wr = w.drewN n) (fun i _ => len - (intOf i).toNat)
  case atStart => exact ⟨0, Nat.zero_le _, rfl, 0, rfl⟩
  case round =>
    obtain ⟨j, hj, rfl, n, rfl⟩ := hrel
    by_cases hlt : j < len
    · obtain ⟨h1, ha, h3⟩ := HW.out
      obtain ⟨b, off, rfl, hbl, hcell⟩ := h3 (by omega)
      obtain ⟨h4, h5, h6⟩ := HW2.out
      obtain ⟨b2, off2, rfl, hbl2, hcell2⟩ := h6 (by omega)
      have c0 := hcell j hlt
      have c1 := hcell2 j hlt
      generalize ns.getD j 0 = a at *
      clear hcell hcell2 h3 h6 h1 h4 ha h5
      go_wp2_with fail
      go_quiet (fail)
      go_wp2
      go_roundw
      case rel => exact ⟨j + 1, by omega, by go_num, _, rfl⟩
      case measure => simp [intOf]; omega
    · go_wp2
      go_ret
      exact ⟨rfl, below_drewN (Below.refl _ _) n⟩
end Go.Proofs.YtefpgpehncllnaaDoor
