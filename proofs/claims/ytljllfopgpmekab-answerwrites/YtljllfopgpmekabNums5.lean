/- The contracts of nums.Wide and of the document's own Wide: a number as bytes. -/
import Derived.Test.YtljllfopgpmekabNums4
import Derived.Test.YtljllfopgpmekabMem
import Derived.Laws.IdiomStrings
import Derived.Laws.MakeOwn
import Derived.OwnWalk
-- prune
namespace Go.Proofs.Ytljllfopgpmekab
open Go.ChangeShapes Go.WideShapes Go.ChangeAt Go.RowKit
set_option linter.unusedVariables false

/-- The i-th of the k lowest bytes of n, the highest one first. -/
def byteN (n : Int) (k i : Nat) : Int := n / 2 ^ (8 * (k - 1 - i)) % 256
/-- The k lowest bytes of n, the highest one first. -/
def wideL (n : Int) (k : Nat) : List UInt8 := (List.range k).map fun i => UInt8.ofNat (byteN n k i).toNat
theorem byteN_bd (n : Int) (k i : Nat) : 0 ≤ byteN n k i ∧ byteN n k i < 256 := by unfold byteN; omega
theorem wideL_len (n : Int) (k : Nat) : (wideL n k).length = k := by simp [wideL]
theorem wideL_get (n : Int) (k i : Nat) (h : i < (wideL n k).length) : ((wideL n k)[i].toNat : Int) = byteN n k i := by
  have hb := byteN_bd n k i
  simp only [wideL, List.getElem_map, List.getElem_range, UInt8.toNat_ofNat']
  omega
theorem Try.infoU8 : (Try.prog.info? 5).map (fun i => (i.zero, i.size, i.bytes)) = some (some (.int .u8 0), 1, 1) := by kernel_rfl

theorem run_makeU8 (k : Nat) (hk : k ≤ 1000) (u : World) : (Instr.makeSlice 83 (.int .i64 (k : Int)) (.int .i64 (k : Int))).run Try.prog u =
      .ok (.slice (some ⟨u.heap.size, 0, none⟩) k k) (u.alloc (.cells (rowF .u8 (fun _ => 0) k).toArray 5)) := by
  obtain ⟨i0, hi, hz0, hz1, hz2⟩ := info_parts Try.infoU8
  have h := run_make (P := Try.prog) u 83 5 i0 (.int .u8 0) Try.underlying83 hi hz0 .i64 .i64 (k : Int) (k : Int) (by omega) (Int.le_refl _) (by rw [hz2]; omega) (by omega)
  rw [← madeRow]
  simpa [hz1, Value.cells] using h

theorem wide_back (w : World) (g cap : Nat) (n : Int) (k : Nat) (h : Has w g 5 (rowF .u8 (byteN n k) k)) :
    (convert 83 9 (.slice (some ⟨g, 0, none⟩) k cap)).run Try.prog w = .ok (.string ⟨(wideL n k).toArray⟩) w := by
  have := run_convert_bytes_back (P := Try.prog) w 83 9 5 ⟨g, 0, none⟩ cap (wideL n k) Try.underlying83 Try.underlying5 Try.underlying9 (by
    intro j hj
    rw [wideL_get n k j hj]
    rw [wideL_len] at hj
    have hc := h.cell j
    rw [rowF_get _ _ _ _ hj] at hc
    have e : (⟨g, 0, none⟩ : Addr).add j = ⟨g, j, none⟩ := by unfold Addr.add; split <;> simp_all
    rw [e]; exact hc)
  rw [wideL_len] at this
  exact this

theorem Wide_no (n k : Int) (w : World) (h : ¬ (0 ≤ k ∧ k ≤ 8)) :
    Calls Try.prog 79 #[.int .u64 n, .int .i64 k] w fun e w' => e = .returned (.string ⟨#[]⟩) ∧ w = w' := by
  go_enter Try.func79, Try.ntmps79
  go_wp2_with (first | (go_at_call 87; refine (fits_no _ _ h).mono ?_; rintro e w' ⟨rfl, rfl⟩))
  go_ret
  exact ⟨rfl, rfl⟩

def partF (n : Int) (k j : Nat) : Nat → Int := fun i => if i < j then byteN n k i else 0
theorem part_step (n : Int) (k j : Nat) : (rowF .u8 (partF n k j) k).set j (.int .u8 (n / 2 ^ (8 * (k - 1 - j)) % 256)) = rowF .u8 (partF n k (j + 1)) k := by
  rw [rowF_set]
  refine rowF_congr _ fun i hi => ?_
  unfold partF
  by_cases e : i = j
  · subst e; rw [if_pos rfl, if_pos (by omega)]; rfl
  · rw [if_neg e]
    by_cases h2 : i < j
    · rw [if_pos h2, if_pos (by omega)]
    · rw [if_neg h2, if_neg (by omega)]
theorem part_end {n : Int} {k j : Nat} (h : ¬ j < k) : rowF .u8 (partF n k j) k = rowF .u8 (byteN n k) k :=
  rowF_congr _ fun i hi => by unfold partF; rw [if_pos (by omega)]

theorem Wide_yes (n : Int) (k : Nat) (w : World) (hn : U64 n) (hk : k ≤ 8) :
    Calls Try.prog 79 #[.int .u64 n, .int .i64 k] w fun e w' => e = .returned (.string ⟨(wideL n k).toArray⟩) ∧ Below w.heap.size w w' := by
  have n0 := hn.1
  have hmk := run_makeU8 k (by omega)
  go_enter Try.func79, Try.ntmps79
  go_wp2_with (first | (go_at_call 87; refine (fits_yes _ _ (by omega)).mono ?_; rintro e w' ⟨rfl, rfl⟩))
  go_loopw [14] (fun i wr => ∃ j : Nat, j ≤ k ∧ i = .int .i64 j ∧ Has wr w.heap.size 5 (rowF .u8 (partF n k j) k) ∧ Below w.heap.size w wr) (fun i _ => k - (intOf i).toNat)
  case atStart => exact ⟨0, Nat.zero_le _, rfl, Has.made _ _ _, (Below.refl _ _).alloc (Nat.le_refl _) _⟩
  case round =>
    obtain ⟨j, hj, rfl, hh, hb⟩ := hrel
    by_cases hlt : j < k
    · have hc := hh.cell j
      rw [rowF_get _ _ _ _ hlt] at hc
      have hf := hh.loose j
      have HH := Lib.hid hh
      clear hh
      go_wp2
      go_roundw
      case rel => exact ⟨j + 1, by omega, by go_num, by rw [← part_step]; exact HH.out.store _ _, hb.setCell (Nat.le_refl _) _⟩
      case measure => simp [intOf]; omega
    · have hcv := wide_back wr w.heap.size k n k (by rw [← part_end (show ¬ j < k from hlt)]; exact hh)
      clear hh
      go_wp2
      go_ret
      exact ⟨rfl, hb⟩

/-- From the back: j of the bytes are laid. -/
def backF (n : Int) (k j : Nat) : Nat → Int := fun i => if k ≤ i + j then byteN n k i else 0
theorem back_zero (n : Int) (k : Nat) : rowF .u8 (backF n k 0) k = rowF .u8 (fun _ => 0) k :=
  rowF_congr _ fun i hi => by unfold backF; rw [if_neg (by omega)]
theorem back_step (n : Int) (k j : Nat) (h : j < k) : (rowF .u8 (backF n k j) k).set (k - 1 - j) (.int .u8 (n / 2 ^ (8 * j) % 256)) = rowF .u8 (backF n k (j + 1)) k := by
  rw [rowF_set]
  refine rowF_congr _ fun i hi => ?_
  unfold backF
  by_cases e : i = k - 1 - j
  · subst e
    rw [if_pos rfl, if_pos (by omega)]
    unfold byteN
    rw [show k - 1 - (k - 1 - j) = j by omega]
  · rw [if_neg e]
    by_cases h2 : k ≤ i + j
    · rw [if_pos h2, if_pos (by omega)]
    · rw [if_neg h2, if_neg (by omega)]
theorem back_end {n : Int} {k j : Nat} (h : ¬ j < k) : rowF .u8 (backF n k j) k = rowF .u8 (byteN n k) k :=
  rowF_congr _ fun i hi => by unfold backF; rw [if_pos (by omega)]
theorem div_step (n : Int) (j : Nat) (h : 0 ≤ n) : (n / 2 ^ (8 * j)) / 256 = n / 2 ^ (8 * (j + 1)) := by
  rw [Int.ediv_ediv_of_nonneg (Int.pow_nonneg (by decide)), show 8 * (j + 1) = 8 * j + 8 by omega, Int.pow_add]; rfl
theorem div_nn (n : Int) (j : Nat) (h : 0 ≤ n) : 0 ≤ n / 2 ^ (8 * j) := Int.ediv_nonneg h (Int.pow_nonneg (by decide))

theorem div_val (n : Int) (j : Nat) (hn : U64 n) : IntKind.u64.wrap ((n / 2 ^ (8 * j)).tdiv 256) = n / 2 ^ (8 * (j + 1)) := by
  have h0 := div_nn n j hn.1
  have h1 := div_nn n (j + 1) hn.1
  have h2 : n / 2 ^ (8 * (j + 1)) ≤ n := Int.ediv_le_self _ hn.1
  rw [Int.tdiv_eq_ediv_of_nonneg h0, div_step n j hn.1, wrap_id]
  unfold U64 at *
  omega

theorem rWide_no (n k : Int) (w : World) (h : ¬ (0 ≤ k ∧ k ≤ 8)) :
    Calls Try.prog 52 #[.int .u64 n, .int .i64 k] w fun e w' => e = .returned (.string ⟨#[]⟩) ∧ w = w' := by
  have h' : k < 0 ∨ (¬ k < 0 ∧ 8 < k) := by omega
  clear h
  rcases h' with h | ⟨h, h1⟩ <;>
    (go_enter Try.func52, Try.ntmps52
     go_wp2
     go_ret
     exact ⟨rfl, rfl⟩)
set_option maxRecDepth 100000 in
theorem rWide_yes (n : Int) (k : Nat) (w : World) (hn : U64 n) (hk : k ≤ 8) :
    Calls Try.prog 52 #[.int .u64 n, .int .i64 k] w fun e w' => e = .returned (.string ⟨(wideL n k).toArray⟩) ∧ Below w.heap.size w w' := by
  have n0 := hn.1
  have hmk := run_makeU8 k (by omega)
  go_enter Try.func52, Try.ntmps52
  go_wp2
  go_loopw [0, 6] (fun m i wr => ∃ j : Nat, j ≤ k ∧ i = .int .i64 ((k : Int) - 1 - j) ∧ m = .int .u64 (n / 2 ^ (8 * j)) ∧ Has wr w.heap.size 5 (rowF .u8 (backF n k j) k) ∧ Below w.heap.size w wr) (fun _ i _ => (intOf i + 1).toNat)
  case atStart => exact ⟨0, Nat.zero_le _, by go_num, by simp, by rw [back_zero]; exact Has.made _ _ _, (Below.refl _ _).alloc (Nat.le_refl _) _⟩
  case round =>
    obtain ⟨j, hj, rfl, rfl, hh, hb⟩ := hrel
    have dn := div_nn n j n0
    by_cases hlt : j < k
    · obtain ⟨i, hi⟩ : ∃ i : Nat, i = k - 1 - j := ⟨_, rfl⟩
      have hi2 : (k : Int) - 1 - j = i := by omega
      have hc := hh.cell i
      rw [rowF_get _ _ _ _ (by omega)] at hc
      have hf := hh.loose i
      have HH := Lib.hid (by have := hh.store i (.int .u8 (n / 2 ^ (8 * j) % 256)); rwa [hi, back_step _ _ _ hlt] at this)
      have hik : i < k := by omega
      have HI := Lib.hid hi
      have HI2 := Lib.hid hi2
      rw [hi2]
      clear hh hi hi2
      go_wp2
      go_roundw
      case rel => exact ⟨j + 1, by omega, val_int (by have := HI2.out; omega), val_int (div_val n j hn), by have := HH.out; rw [← HI.out] at this; exact this, hb.setCell (Nat.le_refl _) _⟩
      case measure => simp [intOf]
    · have hcv := wide_back wr w.heap.size k n k (by rw [← back_end hlt]; exact hh)
      clear hh
      go_wp2
      go_ret
      exact ⟨rfl, hb⟩
end Go.Proofs.Ytljllfopgpmekab
