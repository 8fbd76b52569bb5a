/- The contracts of nums.fits, within, Narrow and of the document's own Narrow: a text as a number. -/
import Derived.Test.YtgdcgilhaedbmacNums2
import Derived.Laws.BitsLemmas
-- prune
namespace Go.Proofs.Ytgdcgilhaedbmac
open Go.ChangeShapes Go.WideShapes Go.ChangeAt Go.RowKit
set_option linter.unusedVariables false

/-- The number whose bytes are these, the highest one first. -/
def numB (l : List UInt8) : Int := l.foldl (fun n c => 256 * n + (c.toNat : Int)) 0
theorem numB_snoc (l : List UInt8) (c : UInt8) : numB (l ++ [c]) = 256 * numB l + c.toNat := by simp [numB]
theorem take_snoc (s : ByteArray) (k : Nat) (h : k < s.size) : s.data.toList.take (k + 1) = s.data.toList.take k ++ [s[k]] := by
  rw [List.take_succ_eq_append_getElem (by simpa using h)]; rfl
theorem numB_bd : ∀ (n : Nat) (l : List UInt8), l.length = n → 0 ≤ numB l ∧ numB l < ((256 ^ n : Nat) : Int) := by
  intro n
  induction n with
  | zero => intro l h; rw [List.length_eq_zero_iff.1 h]; simp [numB]
  | succ n ih =>
    intro l h
    have hne : l ≠ [] := by intro e; simp [e] at h
    rw [← List.dropLast_concat_getLast hne, numB_snoc]
    have hi := ih l.dropLast (by simp [h])
    have hc := UInt8.toNat_lt (l.getLast hne)
    rw [Nat.pow_succ]
    omega
theorem numB_lt {l : List UInt8} (h : l.length < 8) : 0 ≤ numB l ∧ numB l < 72057594037927936 := by
  have hb := numB_bd _ l rfl
  have : 256 ^ l.length ≤ 256 ^ 7 := Nat.pow_le_pow_right (by decide) (by omega)
  omega
theorem numB_u {l : List UInt8} (h : l.length ≤ 8) : U64 (numB l) := by
  have hb := numB_bd _ l rfl
  have : 256 ^ l.length ≤ 256 ^ 8 := Nat.pow_le_pow_right (by decide) (by omega)
  unfold U64
  omega
theorem or_byte {x y : Int} (hx0 : 0 ≤ x) (hx : x < 72057594037927936) (hy0 : 0 ≤ y) (hy : y < 256) :
    bits BinOp.or IntKind.u64 (IntKind.u64.wrap (x * 256)) (IntKind.u64.wrap y) = 256 * x + y := by
  have e1 : IntKind.u64.wrap (x * 256) = x * 256 := by rw [wrapU]; omega
  have e2 : IntKind.u64.wrap y = y := by rw [wrapU]; omega
  rw [e1, e2, bits_join .u64 64 (by decide) (fun n h0 h1 => by rw [wrapU]; omega) 8 (x * 256) y (by omega) (by omega) (by omega) (by omega) (by omega) (by omega)]
  omega
theorem mul_byte {x y : Int} (hx0 : 0 ≤ x) (hx : x < 72057594037927936) (hy0 : 0 ≤ y) (hy : y < 256) :
    IntKind.u64.wrap (IntKind.u64.wrap (256 * x) + IntKind.u64.wrap y) = 256 * x + y := by
  simp only [wrapU]; omega

theorem narrow_step (s : ByteArray) (k : Nat) (hs : s.size ≤ 8) (hlt : k < s.size) :
    bits BinOp.or IntKind.u64 (IntKind.u64.wrap (numB (List.take k s.data.toList) * 256)) (IntKind.u64.wrap ↑s[k].toNat) = numB (List.take (k + 1) s.data.toList) := by
  have hb := numB_lt (l := List.take k s.data.toList) (by simp; omega)
  have hc := UInt8.toNat_lt s[k]
  rw [or_byte hb.1 hb.2 (by omega) (by omega), take_snoc s k hlt, numB_snoc]
theorem rnarrow_step (s : ByteArray) (k : Nat) (hs : s.size ≤ 8) (hlt : k < s.size) :
    IntKind.u64.wrap (IntKind.u64.wrap (256 * numB (List.take k s.data.toList)) + IntKind.u64.wrap ↑s[k].toNat) = numB (List.take (k + 1) s.data.toList) := by
  have hb := numB_lt (l := List.take k s.data.toList) (by simp; omega)
  have hc := UInt8.toNat_lt s[k]
  rw [mul_byte hb.1 hb.2 (by omega) (by omega), take_snoc s k hlt, numB_snoc]
theorem narrow_end (s : ByteArray) (k : Nat) (h : ¬ k < s.size) : numB (List.take k s.data.toList) = numB s.data.toList := by
  rw [List.take_of_length_le]; simp; omega
theorem ret_num_true {a b : Int} (h : a = b) : Ending.returned (.tuple #[.int .u64 a, .bool true]) = .returned (.tuple #[.int .u64 b, .bool true]) := by rw [h]
theorem val_int {k : IntKind} {a b : Int} (h : a = b) : Value.int k a = Value.int k b := by rw [h]

end Go.Proofs.Ytgdcgilhaedbmac
