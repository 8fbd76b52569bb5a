/- The contracts of nums.fits, within, Narrow and of the document's own Narrow: a text as a number. -/
import Derived.Test.YtljllfopgpmekabNums2
import Derived.Laws.BitsLemmas
-- prune
namespace Go.Proofs.Ytljllfopgpmekab
open Go.ChangeShapes Go.WideShapes Go.ChangeAt Go.RowKit
set_option linter.unusedVariables false

theorem fits_any (a : Int) (w : World) :
    Calls Try.prog 87 #[.int .i64 a] w fun e w' => e = .returned (.bool (decide (0 ≤ a ∧ a ≤ 8))) ∧ w = w' := by
  go_enter Try.func87, Try.ntmps87
  go_wp2
  all_goals go_ret
  · exact ⟨ret_bool (by simp [*]), rfl⟩
  · exact ⟨ret_bool (by simp; omega), rfl⟩
theorem within_any (s : ByteArray) (a : Int) (w : World) (hs : s.size ≤ maxLen) :
    Calls Try.prog 90 #[.string s, .int .i64 a] w fun e w' => e = .returned (.bool (decide (0 ≤ a ∧ a ≤ s.size))) ∧ w = w' := by
  unfold maxLen at hs
  go_enter Try.func90, Try.ntmps90
  go_wp2
  all_goals go_ret
  · exact ⟨ret_bool (by simp [*]), rfl⟩
  · exact ⟨ret_bool (by simp; omega), rfl⟩

/-- The number whose bytes are these, the highest one first. -/
def numB (l : List UInt8) : Int := l.foldl (fun n c => 256 * n + (c.toNat : Int)) 0
theorem numB_snoc (l : List UInt8) (c : UInt8) : numB (l ++ [c]) = 256 * numB l + c.toNat := by simp [numB]
theorem take_snoc (s : ByteArray) (k : Nat) (h : k < s.size) : s.data.toList.take (k + 1) = s.data.toList.take k ++ [s[k]] := by
  rw [List.take_succ_eq_append_getElem (by simpa using h)]; rfl
theorem numB_bd : ∀ (n : Nat) (l : List UInt8), l.length = n → 0 ≤ numB l ∧ numB l < ((256 ^ n : Nat) : Int) := by
  intro n
  induction n with
  | zero => intro l h; rw [List.length_eq_zero_iff.1 h]; simp [numB]
  | succ n ih =>
    intro l h
    have hne : l ≠ [] := by intro e; simp [e] at h
    rw [← List.dropLast_concat_getLast hne, numB_snoc]
    have hi := ih l.dropLast (by simp [h])
    have hc := UInt8.toNat_lt (l.getLast hne)
    rw [Nat.pow_succ]
    omega
theorem numB_lt {l : List UInt8} (h : l.length < 8) : 0 ≤ numB l ∧ numB l < 72057594037927936 := by
  have hb := numB_bd _ l rfl
  have : 256 ^ l.length ≤ 256 ^ 7 := Nat.pow_le_pow_right (by decide) (by omega)
  omega
theorem numB_u {l : List UInt8} (h : l.length ≤ 8) : U64 (numB l) := by
  have hb := numB_bd _ l rfl
  have : 256 ^ l.length ≤ 256 ^ 8 := Nat.pow_le_pow_right (by decide) (by omega)
  unfold U64
  omega
theorem or_byte {x y : Int} (hx0 : 0 ≤ x) (hx : x < 72057594037927936) (hy0 : 0 ≤ y) (hy : y < 256) :
    bits BinOp.or IntKind.u64 (IntKind.u64.wrap (x * 256)) (IntKind.u64.wrap y) = 256 * x + y := by
  have e1 : IntKind.u64.wrap (x * 256) = x * 256 := by rw [wrapU]; omega
  have e2 : IntKind.u64.wrap y = y := by rw [wrapU]; omega
  rw [e1, e2, bits_join .u64 64 (by decide) (fun n h0 h1 => by rw [wrapU]; omega) 8 (x * 256) y (by omega) (by omega) (by omega) (by omega) (by omega) (by omega)]
  omega
theorem mul_byte {x y : Int} (hx0 : 0 ≤ x) (hx : x < 72057594037927936) (hy0 : 0 ≤ y) (hy : y < 256) :
    IntKind.u64.wrap (IntKind.u64.wrap (256 * x) + IntKind.u64.wrap y) = 256 * x + y := by
  simp only [wrapU]; omega

theorem fits_yes (a : Int) (w : World) (h : 0 ≤ a ∧ a ≤ 8) :
    Calls Try.prog 87 #[.int .i64 a] w fun e w' => e = .returned (.bool true) ∧ w = w' := by
  have E := Lib.hid (show decide (0 ≤ a ∧ a ≤ 8) = true by simpa using h)
  refine (fits_any a w).mono ?_
  rintro e w' ⟨rfl, rfl⟩
  exact ⟨by rw [E.out], rfl⟩
theorem fits_no (a : Int) (w : World) (h : ¬ (0 ≤ a ∧ a ≤ 8)) :
    Calls Try.prog 87 #[.int .i64 a] w fun e w' => e = .returned (.bool false) ∧ w = w' := by
  have E := Lib.hid (show decide (0 ≤ a ∧ a ≤ 8) = false by simpa using h)
  refine (fits_any a w).mono ?_
  rintro e w' ⟨rfl, rfl⟩
  exact ⟨by rw [E.out], rfl⟩

theorem narrow_step (s : ByteArray) (k : Nat) (hs : s.size ≤ 8) (hlt : k < s.size) :
    bits BinOp.or IntKind.u64 (IntKind.u64.wrap (numB (List.take k s.data.toList) * 256)) (IntKind.u64.wrap ↑s[k].toNat) = numB (List.take (k + 1) s.data.toList) := by
  have hb := numB_lt (l := List.take k s.data.toList) (by simp; omega)
  have hc := UInt8.toNat_lt s[k]
  rw [or_byte hb.1 hb.2 (by omega) (by omega), take_snoc s k hlt, numB_snoc]
theorem rnarrow_step (s : ByteArray) (k : Nat) (hs : s.size ≤ 8) (hlt : k < s.size) :
    IntKind.u64.wrap (IntKind.u64.wrap (256 * numB (List.take k s.data.toList)) + IntKind.u64.wrap ↑s[k].toNat) = numB (List.take (k + 1) s.data.toList) := by
  have hb := numB_lt (l := List.take k s.data.toList) (by simp; omega)
  have hc := UInt8.toNat_lt s[k]
  rw [mul_byte hb.1 hb.2 (by omega) (by omega), take_snoc s k hlt, numB_snoc]
theorem narrow_end (s : ByteArray) (k : Nat) (h : ¬ k < s.size) : numB (List.take k s.data.toList) = numB s.data.toList := by
  rw [List.take_of_length_le]; simp; omega
theorem ret_num_true {a b : Int} (h : a = b) : Ending.returned (.tuple #[.int .u64 a, .bool true]) = .returned (.tuple #[.int .u64 b, .bool true]) := by rw [h]
theorem val_int {k : IntKind} {a b : Int} (h : a = b) : Value.int k a = Value.int k b := by rw [h]

theorem Narrow_yes (s : ByteArray) (w : World) (hs : s.size ≤ 8) :
    Calls Try.prog 91 #[.string s] w fun e w' => e = .returned (.tuple #[.int .u64 (numB s.data.toList), .bool true]) ∧ w = w' := by
  go_enter Try.func91, Try.ntmps91
  go_wp2_with (go_at_call 87; refine (fits_yes _ _ (by omega)).mono ?_; rintro e w' ⟨rfl, rfl⟩)
  go_loop [4, 12] (fun n i => ∃ k : Nat, k ≤ s.size ∧ i = .int .i64 k ∧ n = .int .u64 (numB (s.data.toList.take k))) (fun _ i => s.size - (intOf i).toNat)
  case atStart => exact ⟨0, Nat.zero_le _, rfl, rfl⟩
  case round =>
    obtain ⟨k, hk, rfl, rfl⟩ := hrel
    by_cases hlt : k < s.size
    · go_wp2
      go_round
      case rel => exact ⟨k + 1, by omega, by go_num, val_int (narrow_step s k hs hlt)⟩
      case measure => simp [intOf]; omega
    · go_wp2
      go_ret2
      exact ⟨ret_num_true (narrow_end s k hlt), rfl⟩
theorem Narrow_no (s : ByteArray) (w : World) (hs : ¬ s.size ≤ 8) (hm : s.size ≤ maxLen) :
    Calls Try.prog 91 #[.string s] w fun e w' => e = .returned (.tuple #[.int .u64 0, .bool false]) ∧ w = w' := by
  unfold maxLen at hm
  go_enter Try.func91, Try.ntmps91
  go_wp2_with (go_at_call 87; refine (fits_no _ _ (by omega)).mono ?_; rintro e w' ⟨rfl, rfl⟩)
  go_ret2
  exact ⟨rfl, rfl⟩
theorem rNarrow_yes (s : ByteArray) (w : World) (hs : s.size ≤ 8) :
    Calls Try.prog 77 #[.string s] w fun e w' => e = .returned (.tuple #[.int .u64 (numB s.data.toList), .bool true]) ∧ w = w' := by
  go_enter Try.func77, Try.ntmps77
  go_wp2
  go_loop [4, 5] (fun n i => ∃ k : Nat, k ≤ s.size ∧ i = .int .i64 k ∧ n = .int .u64 (numB (s.data.toList.take k))) (fun _ i => s.size - (intOf i).toNat)
  case atStart => exact ⟨0, Nat.zero_le _, rfl, rfl⟩
  case round =>
    obtain ⟨k, hk, rfl, rfl⟩ := hrel
    by_cases hlt : k < s.size
    · go_wp2
      go_round
      case rel => exact ⟨k + 1, by omega, by go_num, val_int (rnarrow_step s k hs hlt)⟩
      case measure => simp [intOf]; omega
    · go_wp2
      go_ret2
      exact ⟨ret_num_true (narrow_end s k hlt), rfl⟩
theorem rNarrow_no (s : ByteArray) (w : World) (hs : ¬ s.size ≤ 8) (hm : s.size ≤ maxLen) :
    Calls Try.prog 77 #[.string s] w fun e w' => e = .returned (.tuple #[.int .u64 0, .bool false]) ∧ w = w' := by
  unfold maxLen at hm
  go_enter Try.func77, Try.ntmps77
  go_wp2
  go_ret2
  exact ⟨rfl, rfl⟩
end Go.Proofs.Ytljllfopgpmekab
