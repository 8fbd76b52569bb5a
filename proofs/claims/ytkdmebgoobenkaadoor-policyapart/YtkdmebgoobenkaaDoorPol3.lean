/- A policy as ten bytes, and back: plain. The table of widths, in memory. -/
import Derived.Test.YtkdmebgoobenkaaDoorPol2
import Derived.Test.YtkdmebgoobenkaaDoorNums6
-- prune
namespace Go.Proofs.YtkdmebgoobenkaaDoor
open Go.ChangeShapes Go.WideShapes Go.ChangeAt Go.RowKit
set_option linter.unusedVariables false

theorem wideL_succ (n : Int) (k : Nat) (hn : 0 ≤ n) : wideL n (k + 1) = wideL (n / 256) k ++ [UInt8.ofNat (n % 256).toNat] := by
  unfold wideL
  rw [List.range_succ, List.map_append]
  congr 1
  · apply List.map_congr_left
    intro i hi
    have hi : i < k := by simpa using hi
    have e : byteN n (k + 1) i = byteN (n / 256) k i := by
      unfold byteN
      rw [show k + 1 - 1 - i = (k - 1 - i) + 1 by omega, ← div_step n _ hn]
      rw [Int.ediv_ediv_of_nonneg (Int.pow_nonneg (by decide)), Int.ediv_ediv_of_nonneg (by decide), Int.mul_comm]
    rw [e]
  · simp [byteN]
theorem numB_wide : ∀ (k : Nat) (n : Int), 0 ≤ n → numB (wideL n k) = n % 2 ^ (8 * k) := by
  intro k
  induction k with
  | zero => intro n hn; simp [wideL, numB]
  | succ k ih =>
    intro n hn
    rw [wideL_succ n k hn, numB_snoc, ih (n / 256) (by omega)]
    have e : (2 : Int) ^ (8 * (k + 1)) = 256 * 2 ^ (8 * k) := by
      rw [show 8 * (k + 1) = 8 * k + 8 by omega, Int.pow_add, Int.mul_comm]; rfl
    have h2 : ((UInt8.ofNat (n % 256).toNat).toNat : Int) = n % 256 := by
      simp only [UInt8.toNat_ofNat']; omega
    have h3 : n % (256 * 2 ^ (8 * k)) = n % 256 + 256 * (n / 256 % 2 ^ (8 * k)) := by
      obtain ⟨m, rfl⟩ := Int.eq_ofNat_of_zero_le hn
      have := Nat.mod_mul (x := m) (a := 256) (b := 2 ^ (8 * k))
      have h4 : ((m % (256 * 2 ^ (8 * k)) : Nat) : Int) = ((m % 256 + 256 * (m / 256 % 2 ^ (8 * k)) : Nat) : Int) := by rw [this]
      simpa using h4
    rw [e, h2, h3]
    omega
theorem wide_numB : ∀ (k : Nat) (l : List UInt8), l.length = k → wideL (numB l) k = l := by
  intro k
  induction k with
  | zero => intro l h; rw [List.length_eq_zero_iff.1 h]; rfl
  | succ k ih =>
    intro l h
    have hne : l ≠ [] := by intro e; simp [e] at h
    have hd := List.dropLast_concat_getLast hne
    have hl : l.dropLast.length = k := by simp [h]
    have hb := numB_bd _ l.dropLast rfl
    have hc := UInt8.toNat_lt (l.getLast hne)
    rw [← hd, numB_snoc, wideL_succ _ _ (by omega)]
    have e1 : (256 * numB l.dropLast + ((l.getLast hne).toNat : Int)) / 256 = numB l.dropLast := by omega
    have e2 : ((256 * numB l.dropLast + ((l.getLast hne).toNat : Int)) % 256).toNat = (l.getLast hne).toNat := by omega
    rw [e1, e2, ih _ hl]
    simp

/-- The k lowest bytes of a number, as a text. -/
def wB (n : Int) (k : Nat) : ByteArray := ⟨(wideL n k).toArray⟩
theorem wB_size (n : Int) (k : Nat) : (wB n k).size = k := by
  show (wideL n k).toArray.size = k
  simp [wideL_len]
theorem wB_list (n : Int) (k : Nat) : (wB n k).data.toList = wideL n k := by simp [wB]
/-- A policy's ten bytes. -/
def encB (k l v b : Int) : ByteArray := ((wB k 1 ++ wB l 4) ++ wB v 4) ++ wB b 1
theorem encB_size (k l v b : Int) : (encB k l v b).size = 10 := by
  unfold encB; simp only [ByteArray.size_append, wB_size]
theorem encB_list (k l v b : Int) : (encB k l v b).data.toList = wideL k 1 ++ (wideL l 4 ++ (wideL v 4 ++ wideL b 1)) := by
  unfold encB; simp [wB]
/-- The number of k bytes at a place. -/
def fld (s : ByteArray) (n k : Nat) : Int := numB ((s.data.toList.drop n).take k)
theorem fld_bd (s : ByteArray) (n k : Nat) (h : n + k ≤ s.size) : 0 ≤ fld s n k ∧ fld s n k < ((256 ^ k : Nat) : Int) := by
  refine numB_bd k _ ?_
  have : s.data.toList.length = s.size := by simp
  simp only [List.length_take, List.length_drop, this]; omega
theorem fld0 (k l v b : Int) (h1 : 0 ≤ k) (h2 : k < 256) : fld (encB k l v b) 0 1 = k := by
  unfold fld
  rw [encB_list, List.drop_zero, List.take_append_of_le_length (by rw [wideL_len]; decide), List.take_of_length_le (by rw [wideL_len]; decide), numB_wide 1 k h1]
  rw [show (2 : Int) ^ (8 * 1) = 256 from rfl]; omega
theorem fld1 (k l v b : Int) (h1 : 0 ≤ l) (h2 : l < 4294967296) : fld (encB k l v b) 1 4 = l := by
  unfold fld
  have e : List.drop 1 (wideL k 1 ++ (wideL l 4 ++ (wideL v 4 ++ wideL b 1))) = wideL l 4 ++ (wideL v 4 ++ wideL b 1) := List.drop_left' (by rw [wideL_len])
  rw [encB_list, e, List.take_append_of_le_length (by rw [wideL_len]; decide), List.take_of_length_le (by rw [wideL_len]; decide), numB_wide 4 l h1]
  rw [show (2 : Int) ^ (8 * 4) = 4294967296 from rfl]; omega
theorem fld5 (k l v b : Int) (h1 : 0 ≤ v) (h2 : v < 4294967296) : fld (encB k l v b) 5 4 = v := by
  unfold fld
  have e : List.drop 5 (wideL k 1 ++ (wideL l 4 ++ (wideL v 4 ++ wideL b 1))) = wideL v 4 ++ wideL b 1 := by
    rw [← List.append_assoc]; exact List.drop_left' (by rw [List.length_append, wideL_len, wideL_len])
  rw [encB_list, e, List.take_append_of_le_length (by rw [wideL_len]; decide), List.take_of_length_le (by rw [wideL_len]; decide), numB_wide 4 v h1]
  rw [show (2 : Int) ^ (8 * 4) = 4294967296 from rfl]; omega
theorem fld9 (k l v b : Int) (h1 : 0 ≤ b) (h2 : b < 256) : fld (encB k l v b) 9 1 = b := by
  unfold fld
  have e : List.drop 9 (wideL k 1 ++ (wideL l 4 ++ (wideL v 4 ++ wideL b 1))) = wideL b 1 := by
    rw [← List.append_assoc, ← List.append_assoc]; exact List.drop_left' (by simp only [List.length_append, wideL_len])
  rw [encB_list, e, List.take_of_length_le (by rw [wideL_len]; decide), numB_wide 1 b h1]
  rw [show (2 : Int) ^ (8 * 1) = 256 from rfl]; omega
theorem enc_fld (s : ByteArray) (h : s.size = 10) : encB (fld s 0 1) (fld s 1 4) (fld s 5 4) (fld s 9 1) = s := by
  have hl : s.data.toList.length = 10 := by rw [← h]; simp
  apply ByteArray.ext
  apply Array.ext'
  rw [encB_list]
  unfold fld
  rw [wide_numB 1 _ (by simp [hl]), wide_numB 4 _ (by simp [hl]), wide_numB 4 _ (by simp [hl]), wide_numB 1 _ (by simp [hl])]
  generalize s.data.toList = x at *
  match x, hl with
  | [a0, a1, a2, a3, a4, a5, a6, a7, a8, a9], _ => rfl
/-- Whether ten bytes are those of a policy. -/
def MayS (s : ByteArray) : Prop := s.size = 10 ∧ MayP (fld s 0 1) (fld s 1 4) (fld s 5 4) (fld s 9 1)
theorem MayP.small {k l v b : Int} (h : MayP k l v b) : (0 ≤ k ∧ k < 256) ∧ (0 ≤ l ∧ l < 4294967296) ∧ (0 ≤ v ∧ v < 4294967296) ∧ (0 ≤ b ∧ b < 256) := by
  obtain ⟨h1, h2, h3, h4, h5, h6, h7, h8, h9⟩ := h
  by_cases e : k = 3
  · obtain ⟨a, c, d⟩ := h9 e; omega
  · have := h8 e; omega
theorem MayP.back {k l v b : Int} (h : MayP k l v b) : fld (encB k l v b) 0 1 = k ∧ fld (encB k l v b) 1 4 = l ∧ fld (encB k l v b) 5 4 = v ∧ fld (encB k l v b) 9 1 = b := by
  obtain ⟨⟨a1, a2⟩, ⟨b1, b2⟩, ⟨c1, c2⟩, ⟨d1, d2⟩⟩ := h.small
  exact ⟨fld0 k l v b a1 a2, fld1 k l v b b1 b2, fld5 k l v b c1 c2, fld9 k l v b d1 d2⟩

/-- The table of widths, in memory. -/
structure TabW (w : World) : Prop where
  sz : 0 < w.heap.size
  t0 : w.cell? ⟨0, 0, none⟩ = some (.int .i64 1)
  t1 : w.cell? ⟨0, 1, none⟩ = some (.int .i64 4)
  t2 : w.cell? ⟨0, 2, none⟩ = some (.int .i64 4)
  t3 : w.cell? ⟨0, 3, none⟩ = some (.int .i64 1)
theorem TabW.below {B : Nat} {w w' : World} (h : TabW w) (hb : Below B w w') (hB : 0 < B) : TabW w' :=
  ⟨Nat.lt_of_lt_of_le h.sz hb.size, (hb.cell (p := ⟨0, 0, none⟩) hB).trans h.t0, (hb.cell (p := ⟨0, 1, none⟩) hB).trans h.t1, (hb.cell (p := ⟨0, 2, none⟩) hB).trans h.t2, (hb.cell (p := ⟨0, 3, none⟩) hB).trans h.t3⟩
end Go.Proofs.YtkdmebgoobenkaaDoor
