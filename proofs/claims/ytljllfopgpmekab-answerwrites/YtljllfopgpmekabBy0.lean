/- Numbers and texts as bytes, and how they are read out of bytes, as functions of lists. -/
import Derived.Test.YtljllfopgpmekabNums5
namespace Go.Proofs.Ytljllfopgpmekab
open Go.ChangeShapes Go.WideShapes Go.ChangeAt Go.RowKit
set_option linter.unusedVariables false

theorem wideL_succ (n : Int) (k : Nat) (hn : 0 ≤ n) : wideL n (k + 1) = wideL (n / 256) k ++ [UInt8.ofNat (n % 256).toNat] := by
  unfold wideL
  rw [List.range_succ, List.map_append]
  congr 1
  · apply List.map_congr_left
    intro i hi
    have hi : i < k := by simpa using hi
    have e : byteN n (k + 1) i = byteN (n / 256) k i := by
      unfold byteN
      rw [show k + 1 - 1 - i = (k - 1 - i) + 1 by omega, ← div_step n _ hn]
      rw [Int.ediv_ediv_of_nonneg (Int.pow_nonneg (by decide)), Int.ediv_ediv_of_nonneg (by decide), Int.mul_comm]
    rw [e]
  · simp [byteN]
theorem numB_wide : ∀ (k : Nat) (n : Int), 0 ≤ n → n < ((256 ^ k : Nat) : Int) → numB (wideL n k) = n := by
  intro k
  induction k with
  | zero => intro n hn h; simp [wideL, numB]; simp at h; omega
  | succ k ih =>
    intro n hn h
    rw [wideL_succ n k hn, numB_snoc, ih (n / 256) (by omega) (by rw [Nat.pow_succ] at h; omega)]
    have h2 : ((UInt8.ofNat (n % 256).toNat).toNat : Int) = n % 256 := by
      simp only [UInt8.toNat_ofNat']; omega
    rw [h2]; omega
/-- A number of k bytes. -/
def Fit (n : Int) (k : Nat) : Prop := 0 ≤ n ∧ n < ((256 ^ k : Nat) : Int)
instance (n : Int) (k : Nat) : Decidable (Fit n k) := by unfold Fit; infer_instance
/-- Its bytes (of any number the lowest ones). -/
def nB (n : Int) (k : Nat) : List UInt8 := wideL (IntKind.u64.wrap n) k
theorem nB_len (n : Int) (k : Nat) : (nB n k).length = k := by unfold nB; rw [wideL_len]
theorem Fit.wrap {n : Int} {k : Nat} (h : Fit n k) (hk : k ≤ 8) : IntKind.u64.wrap n = n := by
  have : 256 ^ k ≤ 256 ^ 8 := Nat.pow_le_pow_right (by decide) hk
  unfold Fit at h
  rw [wrapU]
  have e : (256 : Nat) ^ 8 = 18446744073709551616 := by decide
  omega
theorem nB_fit {n : Int} {k : Nat} (h : Fit n k) (hk : k ≤ 8) : nB n k = wideL n k := by unfold nB; rw [h.wrap hk]
theorem numB_nB {n : Int} {k : Nat} (h : Fit n k) (hk : k ≤ 8) : numB (nB n k) = n := by rw [nB_fit h hk, numB_wide k n h.1 h.2]
theorem Fit.mono {n : Int} {j k : Nat} (h : Fit n j) (hk : j ≤ k) : Fit n k := by
  have : 256 ^ j ≤ 256 ^ k := Nat.pow_le_pow_right (by decide) hk
  unfold Fit at *; omega
/-- A text behind its length; nothing of one that is too long. -/
def tB (s : ByteArray) : List UInt8 := if s.size ≤ 255 then UInt8.ofNat s.size :: s.data.toList else []
theorem tB_len {s : ByteArray} (h : s.size ≤ 255) : (tB s).length = s.size + 1 := by
  unfold tB; rw [if_pos h]; simp
/-- A number read: what is not whole is 0, and takes nothing. -/
def rdN (k : Nat) (l : List UInt8) : Int × List UInt8 := if k ≤ l.length then (numB (l.take k), l.drop k) else (0, l)
/-- A text read. -/
def rdT : List UInt8 → ByteArray × List UInt8
  | [] => (⟨#[]⟩, [])
  | c :: t => if c.toNat ≤ t.length then (⟨(t.take c.toNat).toArray⟩, t.drop c.toNat) else (⟨#[]⟩, c :: t)
theorem rdT_cons (c : UInt8) (t : List UInt8) : rdT (c :: t) = if c.toNat ≤ t.length then (⟨(t.take c.toNat).toArray⟩, t.drop c.toNat) else (⟨#[]⟩, c :: t) := rfl
theorem rdN_nB {n : Int} {k : Nat} (h : Fit n k) (hk : k ≤ 8) (l : List UInt8) : rdN k (nB n k ++ l) = (n, l) := by
  unfold rdN
  have hl := nB_len n k
  rw [if_pos (by rw [List.length_append]; omega), List.take_left' hl, List.drop_left' hl, numB_nB h hk]
theorem rdN_fit (k : Nat) (l : List UInt8) : Fit (rdN k l).1 k := by
  unfold rdN Fit
  have : 0 < 256 ^ k := Nat.pow_pos (by decide)
  split
  · have := numB_bd k (l.take k) (by simp; omega)
    exact this
  · exact ⟨Int.le_refl _, show (0 : Int) < ((256 ^ k : Nat) : Int) by omega⟩
theorem rdN_le (k : Nat) (l : List UInt8) : (rdN k l).2.length ≤ l.length := by unfold rdN; split <;> simp
theorem rdT_tB {s : ByteArray} (h : s.size ≤ 255) (l : List UInt8) : rdT (tB s ++ l) = (s, l) := by
  unfold tB
  rw [if_pos h, List.cons_append]
  have e : (UInt8.ofNat s.size).toNat = s.size := by simp; omega
  have hl : s.data.toList.length = s.size := by simp
  rw [rdT_cons, e, if_pos (by rw [List.length_append]; omega), List.take_left' hl, List.drop_left' hl]
theorem rdT_fit (l : List UInt8) : (rdT l).1.size ≤ 255 := by
  cases l with
  | nil => decide
  | cons c t =>
    have hc := UInt8.toNat_lt c
    rw [rdT_cons]
    split
    · show (List.take c.toNat t).toArray.size ≤ 255
      simp; omega
    · exact Nat.zero_le _
theorem rdT_le (l : List UInt8) : (rdT l).2.length ≤ l.length := by
  cases l with
  | nil => simp [rdT]
  | cons c t =>
    rw [rdT_cons]
    split
    · simp; omega
    · exact Nat.le_refl _
/-- A row of things read. -/
def rdR {α : Type} (f : List UInt8 → α × List UInt8) : Nat → List UInt8 → List α × List UInt8
  | 0, l => ([], l)
  | n + 1, l => ((f l).1 :: (rdR f n (f l).2).1, (rdR f n (f l).2).2)
theorem rdR_len {α : Type} (f : List UInt8 → α × List UInt8) : ∀ n l, (rdR f n l).1.length = n
  | 0, l => rfl
  | n + 1, l => by simp [rdR, rdR_len f n]
theorem rdR_all {α : Type} {f : List UInt8 → α × List UInt8} {p : α → Prop} (h : ∀ l, p (f l).1) : ∀ n l, ∀ x ∈ (rdR f n l).1, p x
  | 0, l => by simp [rdR]
  | n + 1, l => by
    intro x hx
    simp only [rdR, List.mem_cons] at hx
    rcases hx with rfl | hx
    · exact h l
    · exact rdR_all h n _ x hx
theorem rdR_back {α : Type} {f : List UInt8 → α × List UInt8} {g : α → List UInt8} {p : α → Prop} (h : ∀ x l, p x → f (g x ++ l) = (x, l)) : ∀ (xs : List α) (l : List UInt8), (∀ x ∈ xs, p x) → rdR f xs.length (xs.flatMap g ++ l) = (xs, l)
  | [], l, _ => rfl
  | x :: xs, l, hp => by
    rw [List.flatMap_cons, List.append_assoc]
    simp only [List.length_cons, rdR]
    rw [h x _ (hp x (by simp))]
    simp only
    rw [rdR_back h xs l (fun y hy => hp y (by simp [hy]))]
theorem rdR_le {α : Type} {f : List UInt8 → α × List UInt8} (h : ∀ l, (f l).2.length ≤ l.length) : ∀ n l, (rdR f n l).2.length ≤ l.length
  | 0, l => Nat.le_refl _
  | n + 1, l => Nat.le_trans (rdR_le h n _) (h l)
/-- From the front: what comes of i things, and the next one. -/
theorem rdR_snoc {α : Type} (f : List UInt8 → α × List UInt8) : ∀ n l, rdR f (n + 1) l = ((rdR f n l).1 ++ [(f (rdR f n l).2).1], (f (rdR f n l).2).2)
  | 0, l => rfl
  | n + 1, l => by
    have := rdR_snoc f n (f l).2
    show ((f l).1 :: (rdR f (n + 1) (f l).2).1, (rdR f (n + 1) (f l).2).2) = _
    rw [this]; rfl
end Go.Proofs.Ytljllfopgpmekab
