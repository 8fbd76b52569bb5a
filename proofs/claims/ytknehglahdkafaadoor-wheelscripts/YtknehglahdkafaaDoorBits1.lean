/- Words in memory, and the contracts of bits.fits, there, ones, read and Get. -/
import Derived.Test.YtknehglahdkafaaDoorProg
import Derived.Test.YtknehglahdkafaaDoorMem
import Derived.Test.YtknehglahdkafaaDoorBits0
import Derived.Laws.Bits64
import Derived.Laws.Bits64b
import Derived.Laws.BitsLemmas
namespace Go.Proofs.YtknehglahdkafaaDoor
open Go.ChangeShapes Go.WideShapes Go.ChangeAt Go.RowKit
set_option linter.unusedVariables false

theorem ret_int {k : IntKind} {a b : Int} (h : a = b) : Ending.returned (.int k a) = .returned (.int k b) := by rw [h]
theorem ret_bool {a b : Bool} (h : a = b) : Ending.returned (.bool a) = .returned (.bool b) := by rw [h]
theorem val_int {k : IntKind} {a b : Int} (h : a = b) : Value.int k a = Value.int k b := by rw [h]
theorem wrapU (x : Int) : IntKind.u64.wrap x = x % 18446744073709551616 := by
  simp [IntKind.wrap, IntKind.signed, IntKind.bits]

/-- The slice reads as these words. -/
def Words (w : World) (A : Option Addr) (len : Nat) (ns : List Nat) : Prop :=
  ns.length = len ∧ AllW ns ∧ (0 < len → ∃ b off, A = some ⟨b, off, none⟩ ∧ b < w.heap.size ∧ ∀ i, i < len → w.cell? ⟨b, off + i, none⟩ = some (.int .u64 (ns.getD i 0 : Nat)))
theorem Words.below {w w' : World} {A : Option Addr} {len : Nat} {ns : List Nat} (h : Words w A len ns) (hb : Below w.heap.size w w') : Words w' A len ns := by
  obtain ⟨h1, h2, h3⟩ := h
  refine ⟨h1, h2, fun hl => ?_⟩
  obtain ⟨b, off, rfl, hlt, hc⟩ := h3 hl
  exact ⟨b, off, rfl, Nat.lt_of_lt_of_le hlt hb.size, fun i hi => (hb.cell (p := ⟨b, off + i, none⟩) hlt).trans (hc i hi)⟩

theorem fits_any (a : Int) (w : World) :
    Calls Tryd.prog 40 #[.int .i64 a] w fun e w' => e = .returned (.bool (decide (0 ≤ a ∧ a ≤ 64))) ∧ w = w' := by
  go_enter Tryd.func40, Tryd.ntmps40
  go_wp2
  all_goals go_ret
  · exact ⟨ret_bool (by simp [*]), rfl⟩
  · exact ⟨ret_bool (by simp; omega), rfl⟩
theorem fits_yes (a : Int) (w : World) (h : 0 ≤ a ∧ a ≤ 64) :
    Calls Tryd.prog 40 #[.int .i64 a] w fun e w' => e = .returned (.bool true) ∧ w = w' := by
  have E := Lib.hid (show decide (0 ≤ a ∧ a ≤ 64) = true by simpa using h)
  refine (fits_any a w).mono ?_
  rintro e w' ⟨rfl, rfl⟩
  exact ⟨by rw [E.out], rfl⟩
theorem fits_no (a : Int) (w : World) (h : ¬ (0 ≤ a ∧ a ≤ 64)) :
    Calls Tryd.prog 40 #[.int .i64 a] w fun e w' => e = .returned (.bool false) ∧ w = w' := by
  have E := Lib.hid (show decide (0 ≤ a ∧ a ≤ 64) = false by simpa using h)
  refine (fits_any a w).mono ?_
  rintro e w' ⟨rfl, rfl⟩
  exact ⟨by rw [E.out], rfl⟩

/-- The field lies within so many words. -/
def InField (len : Nat) (p k : Int) : Prop := 0 ≤ p ∧ 0 ≤ k ∧ k ≤ 64 ∧ p + k ≤ 64 * len

theorem there_yes (A : Option Addr) (len cap : Nat) (p k : Int) (w : World) (hl : len ≤ 1000) (h : InField len p k) :
    Calls Tryd.prog 36 #[.slice A len cap, .int .i64 p, .int .i64 k] w fun e w' => e = .returned (.bool true) ∧ w = w' := by
  unfold InField at h
  obtain ⟨h0, h1, h2, h3⟩ := h
  go_enter Tryd.func36, Tryd.ntmps36
  go_wp2_with (first | (go_at_call 40; refine (fits_yes _ _ (by omega)).mono ?_; rintro e w' ⟨rfl, rfl⟩))
  go_ret
  exact ⟨ret_bool (by simp; omega), rfl⟩
theorem there_no (A : Option Addr) (len cap : Nat) (p k : Int) (w : World) (hl : len ≤ 1000) (h : ¬ InField len p k) :
    Calls Tryd.prog 36 #[.slice A len cap, .int .i64 p, .int .i64 k] w fun e w' => e = .returned (.bool false) ∧ w = w' := by
  unfold InField at h
  by_cases h0 : 0 ≤ p
  · by_cases h1 : 0 ≤ k ∧ k ≤ 64
    · obtain ⟨h2, h3⟩ := h1
      have h4 : ¬ p ≤ (len : Int) * 64 - k := by omega
      clear h
      go_enter Tryd.func36, Tryd.ntmps36
      go_wp2_with (first | (go_at_call 40; refine (fits_yes _ _ (by omega)).mono ?_; rintro e w' ⟨rfl, rfl⟩))
      go_ret
      exact ⟨ret_bool (by simp; omega), rfl⟩
    · clear h
      go_enter Tryd.func36, Tryd.ntmps36
      go_wp2_with (first | (go_at_call 40; refine (fits_no _ _ h1).mono ?_; rintro e w' ⟨rfl, rfl⟩))
      go_ret
      exact ⟨rfl, rfl⟩
  · clear h
    go_enter Tryd.func36, Tryd.ntmps36
    go_wp2
    go_ret
    exact ⟨rfl, rfl⟩

theorem pow_int (k : Nat) : (2 : Int) ^ k = ((2 ^ k : Nat) : Int) := by simp
theorem ones_eq (k : Nat) (h : k ≤ 64) : IntKind.u64.wrap (IntKind.u64.wrap (2 ^ k) - 1) = ((2 ^ k - 1 : Nat) : Int) := by
  have hp := pow64 h
  have h0 := Nat.two_pow_pos k
  rw [wrapU, wrapU, pow_int]
  omega
/-- The k lowest bits are 1. -/
def onesN (k : Nat) : Nat := 2 ^ k - 1
theorem onesN_lt {k : Nat} (h : k ≤ 64) : onesN k < 18446744073709551616 := by
  have hp := pow64 h
  have h0 := Nat.two_pow_pos k
  unfold onesN; omega
theorem ones_any (k : Nat) (w : World) (h : k ≤ 64) :
    Calls Tryd.prog 41 #[.int .i64 k] w fun e w' => e = .returned (.int .u64 (onesN k)) ∧ w = w' := by
  have E := Lib.hid (ones_eq k h)
  go_enter Tryd.func41, Tryd.ntmps41
  go_wp2
  go_ret
  exact ⟨ret_int E.out, rfl⟩

theorem shr_nat (a s : Nat) : (a : Int) / 2 ^ s = ((a >>> s : Nat) : Int) := by
  rw [Nat.shiftRight_eq_div_pow, pow_int]; simp
theorem shl_nat (c s : Nat) : IntKind.u64.wrap ((c : Int) * 2 ^ s) = ((c <<< s % 18446744073709551616 : Nat) : Int) := by
  rw [wrapU, Nat.shiftLeft_eq, pow_int]; simp
theorem shr_lt {a : Nat} (s : Nat) (h : a < 18446744073709551616) : a >>> s < 18446744073709551616 := by
  rw [Nat.shiftRight_eq_div_pow]; exact Nat.lt_of_le_of_lt (Nat.div_le_self _ _) h
theorem mod_lt64 (x : Nat) : x % 18446744073709551616 < 18446744073709551616 := Nat.mod_lt _ (by decide)
theorem andNot_nat (a b : Nat) (ha : a < 18446744073709551616) (hb : b < 18446744073709551616) : bits .andNot .u64 (a : Int) (b : Int) = ((a &&& (18446744073709551615 - b) : Nat) : Int) := by
  have h1 : (BitVec.ofInt 64 (a : Int)).toNat = a := by
    rw [BitVec.ofInt_natCast, BitVec.toNat_ofNat]; exact Nat.mod_eq_of_lt (by omega)
  have h2 : (BitVec.ofInt 64 (b : Int)).toNat = b := by
    rw [BitVec.ofInt_natCast, BitVec.toNat_ofNat]; exact Nat.mod_eq_of_lt (by omega)
  show IntKind.u64.wrap ((BitVec.ofInt 64 (a : Int) &&& ~~~ BitVec.ofInt 64 (b : Int)).toNat : Int) = _
  rw [BitVec.toNat_and, BitVec.toNat_not, h1, h2, wrapU]
  have : a &&& (2 ^ 64 - 1 - b) ≤ a := Nat.and_le_left
  rw [show (18446744073709551615 - b) = 2 ^ 64 - 1 - b by omega]
  omega

theorem read_zero (A : Option Addr) (len cap : Nat) (ns : List Nat) (p : Nat) (w : World) :
    Calls Tryd.prog 37 #[.slice A len cap, .int .i64 p, .int .i64 0] w fun e w' => e = .returned (.int .u64 ((fld ns p 0 : Nat) : Int)) ∧ w = w' := by
  go_enter Tryd.func37, Tryd.ntmps37
  go_wp2
  go_ret
  exact ⟨rfl, rfl⟩
theorem read_any (A : Option Addr) (len cap : Nat) (ns : List Nat) (p k : Nat) (w : World) (hl : len ≤ 1000) (hc : len ≤ cap) (hw : Words w A len ns) (hk : k ≤ 64) (hp : p + k ≤ 64 * len) :
    Calls Tryd.prog 37 #[.slice A len cap, .int .i64 p, .int .i64 k] w fun e w' => e = .returned (.int .u64 ((fld ns p k : Nat) : Int)) ∧ w = w' := by
  by_cases hk0 : k = 0
  · subst hk0; exact read_zero A len cap ns p w
  obtain ⟨h1, ha, h3⟩ := hw
  obtain ⟨b, off, rfl, hlt, hcell⟩ := h3 (by omega)
  have t0 : ((k : Int) == 0) = false := by simp; omega
  obtain ⟨a, hav⟩ : ∃ a, a = ns.getD (p / 64) 0 := ⟨_, rfl⟩
  have c0 := hcell (p / 64) (by omega)
  rw [← hav] at c0
  have hal : a < 18446744073709551616 := by rw [hav]; exact ha.at_ _
  by_cases h2 : p % 64 + k ≤ 64
  · have E := Lib.hid (read_one ns p k (by omega))
    rw [← hav] at E
    clear hcell hav
    have HA := Lib.hid hal
    clear hal
    go_enter Tryd.func37, Tryd.ntmps37
    go_wp2_with (first | (go_at_call 41; refine (ones_any _ _ hk).mono ?_; rintro e w' ⟨rfl, rfl⟩))
    go_ret
    refine ⟨ret_int ?_, rfl⟩
    rw [shr_nat, bits_and_u64_nat _ _ (shr_lt _ HA.out) (onesN_lt hk)]
    exact congrArg _ E.out
  · obtain ⟨c, hcv⟩ : ∃ c, c = ns.getD (p / 64 + 1) 0 := ⟨_, rfl⟩
    have c1 := hcell (p / 64 + 1) (by omega)
    rw [← hcv] at c1
    have hcl : c < 18446744073709551616 := by rw [hcv]; exact ha.at_ _
    have E := Lib.hid (read_two ns p k hk ha (by omega))
    rw [← hav, ← hcv] at E
    clear hcell hav hcv
    have HA := Lib.hid hal
    have HC := Lib.hid hcl
    clear hal hcl
    go_enter Tryd.func37, Tryd.ntmps37
    go_wp2_with (first | (go_at_call 41; refine (ones_any _ _ hk).mono ?_; rintro e w' ⟨rfl, rfl⟩))
    go_ret
    refine ⟨ret_int ?_, rfl⟩
    rw [shr_nat, shl_nat, bits_or_u64_nat _ _ (shr_lt _ HA.out) (mod_lt64 _), bits_and_u64_nat _ _ (Nat.or_lt_two_pow (n := 64) (shr_lt _ HA.out) (mod_lt64 _)) (onesN_lt hk)]
    exact congrArg _ E.out

theorem Get_yes (A : Option Addr) (len cap : Nat) (ns : List Nat) (p k : Nat) (w : World) (hl : len ≤ 1000) (hc : len ≤ cap) (hw : Words w A len ns) (hk : k ≤ 64) (hp : p + k ≤ 64 * len) :
    Calls Tryd.prog 34 #[.slice A len cap, .int .i64 p, .int .i64 k] w fun e w' => e = .returned (.tuple #[.int .u64 ((fld ns p k : Nat) : Int), .bool true]) ∧ w = w' := by
  go_enter Tryd.func34, Tryd.ntmps34
  go_wp2_with (first | (go_at_call 36; refine (there_yes _ _ _ _ _ _ hl (by unfold InField; omega)).mono ?_; rintro e w' ⟨rfl, rfl⟩) | (go_at_call 37; refine (read_any A len cap ns p k _ hl hc hw hk hp).mono ?_; rintro e w' ⟨rfl, rfl⟩))
  go_ret2
  exact ⟨rfl, rfl⟩
theorem Get_no (A : Option Addr) (len cap : Nat) (p k : Int) (w : World) (hl : len ≤ 1000) (h : ¬ InField len p k) :
    Calls Tryd.prog 34 #[.slice A len cap, .int .i64 p, .int .i64 k] w fun e w' => e = .returned (.tuple #[.int .u64 0, .bool false]) ∧ w = w' := by
  go_enter Tryd.func34, Tryd.ntmps34
  go_wp2_with (first | (go_at_call 36; refine (there_no _ _ _ _ _ _ hl h).mono ?_; rintro e w' ⟨rfl, rfl⟩))
  go_ret2
  exact ⟨rfl, rfl⟩
end Go.Proofs.YtknehglahdkafaaDoor
