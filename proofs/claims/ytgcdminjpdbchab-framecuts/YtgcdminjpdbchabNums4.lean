/- The contracts of nums.Number and of the document's own Number: a number's bytes, at any place. -/
import Derived.Test.YtgcdminjpdbchabNums3
-- prune
namespace Go.Proofs.Ytgcdminjpdbchab
open Go.ChangeShapes Go.WideShapes Go.ChangeAt Go.RowKit
set_option linter.unusedVariables false

theorem sub_list (s : ByteArray) (n k : Nat) : (s.extract n (n + k)).data.toList = (s.data.toList.drop n).take k := by
  simp [ByteArray.data_extract, List.take_drop]
theorem sub_size (s : ByteArray) (n k : Nat) (h : n + k ≤ s.size) : (s.extract n (n + k)).size = k := by
  rw [ByteArray.size_extract]; omega
theorem run_sub {P : Program} {t : TypeId} (ht : P.underlying t = some .string) (s : ByteArray) (n k : Nat) (h : n + k ≤ s.size) (W : World) :
    (Instr.slice t (.string s) (some (.int .i64 (n : Int))) (some (.int .i64 ((n : Int) + (k : Int)))) none).run P W = .ok (.string (s.extract n (n + k))) W := by
  rw [run_slice_string _ _ _ _ _ _ _ ht (by omega) (by omega) (by omega)]
  rw [show ((n : Int) + (k : Int)).toNat = n + k by omega, Int.toNat_natCast]

theorem ret3 {a a' : Value} {b b' : Int} {v : Value} (h : a = a') (h2 : b = b') : Ending.returned (.tuple #[a, .int .i64 b, v]) = .returned (.tuple #[a', .int .i64 b', v]) := by rw [h, h2]

end Go.Proofs.Ytgcdminjpdbchab
