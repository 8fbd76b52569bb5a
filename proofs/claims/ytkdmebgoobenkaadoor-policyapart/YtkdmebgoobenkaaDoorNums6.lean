/- The contracts of nums.Put, Text and of the document's own: a text as bytes. -/
import Derived.Test.YtkdmebgoobenkaaDoorNums5
-- prune
namespace Go.Proofs.YtkdmebgoobenkaaDoor
open Go.ChangeShapes Go.WideShapes Go.ChangeAt Go.RowKit
set_option linter.unusedVariables false

/-- A text behind its length. -/
def putB (s : ByteArray) : ByteArray := ⟨(wideL s.size 1).toArray⟩ ++ s
theorem ret_put {a b : ByteArray} (h : a = b) : Ending.returned (.tuple #[.string a, .bool true]) = .returned (.tuple #[.string b, .bool true]) := by rw [h]

theorem one_row (n : Nat) (h : n ≤ 255) : [Value.int .u8 (n : Int)] = rowF .u8 (byteN n 1) 1 := by
  simp only [rowF, List.range_succ, List.range_zero, List.nil_append, List.map_cons, List.map_nil, byteN]
  rw [show (n : Int) / 2 ^ (8 * (1 - 1 - 0)) % 256 = n by simp; omega]
theorem run_sub2 {P : Program} {t : TypeId} (ht : P.underlying t = some .string) (s : ByteArray) (n k : Nat) (h : n + 1 + k ≤ s.size) (W : World) :
    (Instr.slice t (.string s) (some (.int .i64 ((n : Int) + 1))) (some (.int .i64 ((n : Int) + 1 + (k : Int)))) none).run P W = .ok (.string (s.extract (n + 1) (n + 1 + k))) W := by
  rw [run_slice_string _ _ _ _ _ _ _ ht (by omega) (by omega) (by omega)]
  rw [show ((n : Int) + 1 + (k : Int)).toNat = n + 1 + k by omega, show ((n : Int) + 1).toNat = n + 1 by omega]
theorem numB_one (s : ByteArray) (n : Nat) (h : n < s.size) : numB ((s.data.toList.drop n).take 1) = s[n].toNat := by
  have e : (s.data.toList.drop n).take 1 = [s[n]] := by
    rw [List.drop_eq_getElem_cons (by simpa using h)]
    rfl
  rw [e]; simp [numB]
theorem Number_one (s : ByteArray) (n : Nat) (w : World) (hs : s.size ≤ maxLen) (h : n < s.size) :
    Calls Tryd.prog 25 #[.string s, .int .i64 n, .int .i64 1] w fun e w' => e = .returned (.tuple #[.int .u64 (s[n].toNat : Int), .int .i64 ((n : Int) + 1), .int .i64 0]) ∧ w = w' := by
  have := Number_yes s n 1 w hs (by omega) (by omega)
  rw [numB_one s n h] at this
  exact this

end Go.Proofs.YtkdmebgoobenkaaDoor
