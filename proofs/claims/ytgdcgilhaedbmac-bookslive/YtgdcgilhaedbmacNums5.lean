/- The contracts of nums.Wide and of the document's own Wide: a number as bytes. -/
import Derived.Test.YtgdcgilhaedbmacNums4
import Derived.Test.YtgdcgilhaedbmacMem
import Derived.Laws.IdiomStrings
import Derived.Laws.MakeOwn
import Derived.OwnWalk
-- prune
namespace Go.Proofs.Ytgdcgilhaedbmac
open Go.ChangeShapes Go.WideShapes Go.ChangeAt Go.RowKit
set_option linter.unusedVariables false

/-- The i-th of the k lowest bytes of n, the highest one first. -/
def byteN (n : Int) (k i : Nat) : Int := n / 2 ^ (8 * (k - 1 - i)) % 256
/-- The k lowest bytes of n, the highest one first. -/
def wideL (n : Int) (k : Nat) : List UInt8 := (List.range k).map fun i => UInt8.ofNat (byteN n k i).toNat
theorem byteN_bd (n : Int) (k i : Nat) : 0 ≤ byteN n k i ∧ byteN n k i < 256 := by unfold byteN; omega
theorem wideL_len (n : Int) (k : Nat) : (wideL n k).length = k := by simp [wideL]
theorem wideL_get (n : Int) (k i : Nat) (h : i < (wideL n k).length) : ((wideL n k)[i].toNat : Int) = byteN n k i := by
  have hb := byteN_bd n k i
  simp only [wideL, List.getElem_map, List.getElem_range, UInt8.toNat_ofNat']
  omega
theorem Try.infoU8 : (Try.prog.info? 5).map (fun i => (i.zero, i.size, i.bytes)) = some (some (.int .u8 0), 1, 1) := by kernel_rfl

def partF (n : Int) (k j : Nat) : Nat → Int := fun i => if i < j then byteN n k i else 0
theorem part_step (n : Int) (k j : Nat) : (rowF .u8 (partF n k j) k).set j (.int .u8 (n / 2 ^ (8 * (k - 1 - j)) % 256)) = rowF .u8 (partF n k (j + 1)) k := by
  rw [rowF_set]
  refine rowF_congr _ fun i hi => ?_
  unfold partF
  by_cases e : i = j
  · subst e; rw [if_pos rfl, if_pos (by omega)]; rfl
  · rw [if_neg e]
    by_cases h2 : i < j
    · rw [if_pos h2, if_pos (by omega)]
    · rw [if_neg h2, if_neg (by omega)]
theorem part_end {n : Int} {k j : Nat} (h : ¬ j < k) : rowF .u8 (partF n k j) k = rowF .u8 (byteN n k) k :=
  rowF_congr _ fun i hi => by unfold partF; rw [if_pos (by omega)]

/-- From the back: j of the bytes are laid. -/
def backF (n : Int) (k j : Nat) : Nat → Int := fun i => if k ≤ i + j then byteN n k i else 0
theorem back_zero (n : Int) (k : Nat) : rowF .u8 (backF n k 0) k = rowF .u8 (fun _ => 0) k :=
  rowF_congr _ fun i hi => by unfold backF; rw [if_neg (by omega)]
theorem back_step (n : Int) (k j : Nat) (h : j < k) : (rowF .u8 (backF n k j) k).set (k - 1 - j) (.int .u8 (n / 2 ^ (8 * j) % 256)) = rowF .u8 (backF n k (j + 1)) k := by
  rw [rowF_set]
  refine rowF_congr _ fun i hi => ?_
  unfold backF
  by_cases e : i = k - 1 - j
  · subst e
    rw [if_pos rfl, if_pos (by omega)]
    unfold byteN
    rw [show k - 1 - (k - 1 - j) = j by omega]
  · rw [if_neg e]
    by_cases h2 : k ≤ i + j
    · rw [if_pos h2, if_pos (by omega)]
    · rw [if_neg h2, if_neg (by omega)]
theorem back_end {n : Int} {k j : Nat} (h : ¬ j < k) : rowF .u8 (backF n k j) k = rowF .u8 (byteN n k) k :=
  rowF_congr _ fun i hi => by unfold backF; rw [if_pos (by omega)]
theorem div_step (n : Int) (j : Nat) (h : 0 ≤ n) : (n / 2 ^ (8 * j)) / 256 = n / 2 ^ (8 * (j + 1)) := by
  rw [Int.ediv_ediv_of_nonneg (Int.pow_nonneg (by decide)), show 8 * (j + 1) = 8 * j + 8 by omega, Int.pow_add]; rfl
theorem div_nn (n : Int) (j : Nat) (h : 0 ≤ n) : 0 ≤ n / 2 ^ (8 * j) := Int.ediv_nonneg h (Int.pow_nonneg (by decide))

theorem div_val (n : Int) (j : Nat) (hn : U64 n) : IntKind.u64.wrap ((n / 2 ^ (8 * j)).tdiv 256) = n / 2 ^ (8 * (j + 1)) := by
  have h0 := div_nn n j hn.1
  have h1 := div_nn n (j + 1) hn.1
  have h2 : n / 2 ^ (8 * (j + 1)) ≤ n := Int.ediv_le_self _ hn.1
  rw [Int.tdiv_eq_ediv_of_nonneg h0, div_step n j hn.1, wrap_id]
  unfold U64 at *
  omega

end Go.Proofs.Ytgdcgilhaedbmac
