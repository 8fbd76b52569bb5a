/- Plain arithmetic of words: bits of a row of words of 64 bits, fields that are read and written, by bits alone. No Go text. -/
import Derived.Lib.Hide
namespace Go.Proofs.YtknehglahdkafaaDoor
set_option linter.unusedVariables false

/-- The number whose k lowest bits are f 0, f 1, .. -/
def mkBits (f : Nat → Bool) : Nat → Nat
  | 0 => 0
  | k + 1 => (f 0).toNat + 2 * mkBits (fun j => f (j + 1)) k

theorem mkBits_lt (f : Nat → Bool) (k : Nat) : mkBits f k < 2 ^ k := by
  induction k generalizing f with
  | zero => simp [mkBits]
  | succ k ih =>
    have h := ih (fun j => f (j + 1))
    have hb : (f 0).toNat ≤ 1 := Bool.toNat_le _
    rw [Nat.pow_succ]
    simp only [mkBits]
    omega
theorem mkBits_bit (f : Nat → Bool) (k j : Nat) : (mkBits f k).testBit j = (decide (j < k) && f j) := by
  induction k generalizing f j with
  | zero => simp [mkBits]
  | succ k ih =>
    have hb : (f 0).toNat ≤ 1 := Bool.toNat_le _
    cases j with
    | zero =>
      simp only [mkBits, Nat.testBit_zero]
      cases h : f 0 <;> simp
    | succ j =>
      rw [Nat.testBit_succ]
      have e : mkBits f (k + 1) / 2 = mkBits (fun j => f (j + 1)) k := by simp only [mkBits]; omega
      rw [e, ih]
      simp
theorem bits_ext {a b k : Nat} (ha : a < 2 ^ k) (hb : b < 2 ^ k) (h : ∀ j, j < k → a.testBit j = b.testBit j) : a = b := by
  apply Nat.eq_of_testBit_eq
  intro j
  by_cases hj : j < k
  · exact h j hj
  · rw [Nat.testBit_lt_two_pow (Nat.lt_of_lt_of_le ha (Nat.pow_le_pow_right (by decide) (by omega))), Nat.testBit_lt_two_pow (Nat.lt_of_lt_of_le hb (Nat.pow_le_pow_right (by decide) (by omega)))]

/-- Bit i of words. -/
def bitAt (ns : List Nat) (i : Nat) : Bool := (ns.getD (i / 64) 0).testBit (i % 64)
/-- All are words of 64 bits. -/
def AllW (ns : List Nat) : Prop := ∀ n ∈ ns, n < 18446744073709551616
theorem AllW.at_ {ns : List Nat} (h : AllW ns) (i : Nat) : ns.getD i 0 < 18446744073709551616 := by
  by_cases hi : i < ns.length
  · rw [List.getD_eq_getElem?_getD, List.getElem?_eq_getElem hi]; exact h _ (List.getElem_mem hi)
  · rw [List.getD_eq_getElem?_getD, List.getElem?_eq_none (by omega)]; decide
/-- The field of these words. -/
def fld (ns : List Nat) (p w : Nat) : Nat := mkBits (fun j => bitAt ns (p + j)) w
/-- The words with the field set to n. -/
def setW (ns : List Nat) (p w n : Nat) : List Nat :=
  (List.range ns.length).map fun i => mkBits (fun j => if p ≤ 64 * i + j ∧ 64 * i + j < p + w then n.testBit (64 * i + j - p) else (ns.getD i 0).testBit j) 64

theorem setW_len (ns : List Nat) (p w n : Nat) : (setW ns p w n).length = ns.length := by simp [setW]
theorem setW_at (ns : List Nat) (p w n i : Nat) (h : i < ns.length) : (setW ns p w n).getD i 0 = mkBits (fun j => if p ≤ 64 * i + j ∧ 64 * i + j < p + w then n.testBit (64 * i + j - p) else (ns.getD i 0).testBit j) 64 := by
  rw [List.getD_eq_getElem?_getD]
  simp [setW, h]
theorem setW_all (ns : List Nat) (p w n : Nat) : AllW (setW ns p w n) := by
  intro x hx
  simp only [setW, List.mem_map] at hx
  obtain ⟨i, _, rfl⟩ := hx
  exact mkBits_lt _ 64
theorem setW_bit (ns : List Nat) (p w n i : Nat) (h : i < 64 * ns.length) : bitAt (setW ns p w n) i = if p ≤ i ∧ i < p + w then n.testBit (i - p) else bitAt ns i := by
  unfold bitAt
  rw [setW_at _ _ _ _ _ (by omega), mkBits_bit]
  rw [show 64 * (i / 64) + i % 64 = i by omega]
  simp [Nat.mod_lt]
theorem words_ext {a b : List Nat} (hl : a.length = b.length) (ha : AllW a) (hb : AllW b) (h : ∀ i, i < 64 * a.length → bitAt a i = bitAt b i) : a = b := by
  apply List.ext_getElem hl
  intro i h1 h2
  have e1 : a.getD i 0 = a[i] := by rw [List.getD_eq_getElem?_getD, List.getElem?_eq_getElem h1]; rfl
  have e2 : b.getD i 0 = b[i] := by rw [List.getD_eq_getElem?_getD, List.getElem?_eq_getElem h2]; rfl
  refine bits_ext (k := 64) (ha _ (List.getElem_mem h1)) (hb _ (List.getElem_mem h2)) fun j hj => ?_
  have hh := h (64 * i + j) (by omega)
  unfold bitAt at hh
  rw [show (64 * i + j) / 64 = i by omega, show (64 * i + j) % 64 = j by omega, e1, e2] at hh
  exact hh
theorem bit_out (ns : List Nat) (i : Nat) (h : 64 * ns.length ≤ i) : bitAt ns i = false := by
  unfold bitAt
  rw [List.getD_eq_getElem?_getD, List.getElem?_eq_none (by omega)]
  simp
theorem fld_lt (ns : List Nat) (p w : Nat) : fld ns p w < 2 ^ w := mkBits_lt _ _
theorem fld_bit (ns : List Nat) (p w j : Nat) : (fld ns p w).testBit j = (decide (j < w) && bitAt ns (p + j)) := mkBits_bit _ _ _
theorem pow64 {w : Nat} (h : w ≤ 64) : 2 ^ w ≤ 18446744073709551616 := Nat.le_trans (Nat.pow_le_pow_right (by decide) h) (Nat.le_refl (2 ^ 64))
theorem fld_u {ns : List Nat} {p w : Nat} (h : w ≤ 64) : fld ns p w < 18446744073709551616 := Nat.lt_of_lt_of_le (fld_lt ns p w) (pow64 h)

/-- Reading: the field lies in one word. -/
theorem read_one (ns : List Nat) (p w : Nat) (h : p % 64 + w ≤ 64) : ((ns.getD (p / 64) 0) >>> (p % 64)) &&& (2 ^ w - 1) = fld ns p w := by
  apply Nat.eq_of_testBit_eq
  intro j
  rw [Nat.testBit_and, Nat.testBit_two_pow_sub_one, Nat.testBit_shiftRight, fld_bit]
  by_cases hj : j < w
  · unfold bitAt
    rw [show (p + j) / 64 = p / 64 by omega, show (p + j) % 64 = p % 64 + j by omega]
    simp [hj]
  · simp [hj]
/-- Reading: the field lies in two words. -/
theorem read_two (ns : List Nat) (p w : Nat) (hw : w ≤ 64) (ha : AllW ns) (h : ¬ p % 64 + w ≤ 64) :
    (((ns.getD (p / 64) 0) >>> (p % 64)) ||| ((ns.getD (p / 64 + 1) 0) <<< (64 - p % 64) % 18446744073709551616)) &&& (2 ^ w - 1) = fld ns p w := by
  apply Nat.eq_of_testBit_eq
  intro j
  rw [Nat.testBit_and, Nat.testBit_two_pow_sub_one, Nat.testBit_or, Nat.testBit_shiftRight, show (18446744073709551616 : Nat) = 2 ^ 64 from rfl, Nat.testBit_mod_two_pow, Nat.testBit_shiftLeft, fld_bit]
  by_cases hj : j < w
  · unfold bitAt
    by_cases h1 : p % 64 + j < 64
    · rw [show (p + j) / 64 = p / 64 by omega, show (p + j) % 64 = p % 64 + j by omega]
      have : ¬ 64 - p % 64 ≤ j := by omega
      simp [hj, this]
    · have z : (ns.getD (p / 64) 0).testBit (p % 64 + j) = false :=
        Nat.testBit_lt_two_pow (Nat.lt_of_lt_of_le (ha.at_ _) (Nat.le_trans (Nat.le_refl (2 ^ 64)) (Nat.pow_le_pow_right (by decide) (by omega))))
      rw [show (p + j) / 64 = p / 64 + 1 by omega, show (p + j) % 64 = j - (64 - p % 64) by omega, z]
      have h2 : 64 - p % 64 ≤ j := by omega
      have h3 : j < 64 := by omega
      simp [hj, h2, h3]
  · simp [hj]

theorem andNot_bit (a b j : Nat) (hb : b < 18446744073709551616) : (a &&& (18446744073709551615 - b)).testBit j = (a.testBit j && (decide (j < 64) && !b.testBit j)) := by
  rw [Nat.testBit_and, show 18446744073709551615 - b = 2 ^ 64 - (b + 1) by omega, Nat.testBit_two_pow_sub_succ (by omega)]

/-- What write lays into the first word. -/
def put1 (a f n s : Nat) : Nat := (a &&& (18446744073709551615 - (f <<< s) % 18446744073709551616)) ||| ((n <<< s) % 18446744073709551616)
/-- What write lays into the second word. -/
def put2 (b f n l : Nat) : Nat := (b &&& (18446744073709551615 - (f >>> l))) ||| (n >>> l)
theorem put1_lt (a f n s : Nat) (ha : a < 18446744073709551616) : put1 a f n s < 18446744073709551616 := by
  unfold put1
  exact Nat.or_lt_two_pow (n := 64) (Nat.lt_of_le_of_lt Nat.and_le_left ha) (Nat.mod_lt _ (by decide))
theorem put2_lt (b f n l : Nat) (hb : b < 18446744073709551616) (hn : n < 18446744073709551616) : put2 b f n l < 18446744073709551616 := by
  unfold put2
  refine Nat.or_lt_two_pow (n := 64) (Nat.lt_of_le_of_lt Nat.and_le_left hb) ?_
  rw [Nat.shiftRight_eq_div_pow]
  exact Nat.lt_of_le_of_lt (Nat.div_le_self _ _) hn
theorem put1_bit (a n w s j : Nat) (hw : w ≤ 64) (hj : j < 64) :
    (put1 a (2 ^ w - 1) (n &&& (2 ^ w - 1)) s).testBit j = if s ≤ j ∧ j < s + w then n.testBit (j - s) else a.testBit j := by
  unfold put1
  rw [Nat.testBit_or, andNot_bit _ _ _ (Nat.mod_lt _ (by decide)), show (18446744073709551616 : Nat) = 2 ^ 64 from rfl, Nat.testBit_mod_two_pow, Nat.testBit_mod_two_pow, Nat.testBit_shiftLeft, Nat.testBit_shiftLeft, Nat.testBit_and, Nat.testBit_two_pow_sub_one]
  by_cases h1 : s ≤ j
  · by_cases h2 : j < s + w
    · have : j - s < w := by omega
      simp [h1, h2, hj, this]
    · have : ¬ j - s < w := by omega
      simp [h1, h2, hj, this]
  · simp [h1, hj]
theorem put2_bit (b n w l j : Nat) (hw : w ≤ 64) (hj : j < 64) :
    (put2 b (2 ^ w - 1) (n &&& (2 ^ w - 1)) l).testBit j = if j + l < w then n.testBit (j + l) else b.testBit j := by
  have hp : 2 ^ w ≤ 18446744073709551616 := pow64 hw
  unfold put2
  rw [Nat.testBit_or, andNot_bit _ _ _ (by rw [Nat.shiftRight_eq_div_pow]; exact Nat.lt_of_le_of_lt (Nat.div_le_self _ _) (by have := Nat.two_pow_pos w; omega)), Nat.testBit_shiftRight, Nat.testBit_shiftRight, Nat.testBit_and, Nat.testBit_two_pow_sub_one, Nat.add_comm l j]
  by_cases h : j + l < w <;> simp [h, hj]

/-- Writing: the field lies in one word. -/
theorem write_one (ns : List Nat) (p w n : Nat) (hw : w ≤ 64) (ha : AllW ns) (h : p % 64 + w ≤ 64) (hl : p / 64 < ns.length) :
    ns.set (p / 64) (put1 (ns.getD (p / 64) 0) (2 ^ w - 1) (n &&& (2 ^ w - 1)) (p % 64)) = setW ns p w n := by
  refine words_ext (by simp [setW_len]) ?_ (setW_all _ _ _ _) ?_
  · intro x hx
    rcases List.mem_or_eq_of_mem_set hx with hx | rfl
    · exact ha x hx
    · exact put1_lt _ _ _ _ (ha.at_ _)
  · intro i hi
    rw [List.length_set] at hi
    rw [setW_bit _ _ _ _ _ hi]
    unfold bitAt
    rw [List.getD_eq_getElem?_getD, List.getElem?_set]
    by_cases e : p / 64 = i / 64
    · rw [if_pos e, if_pos hl]
      show (put1 _ _ _ _).testBit _ = _
      rw [put1_bit _ _ _ _ _ hw (Nat.mod_lt _ (by decide)), ← e]
      by_cases h1 : p % 64 ≤ i % 64 ∧ i % 64 < p % 64 + w
      · rw [if_pos h1, if_pos (by omega), show i % 64 - p % 64 = i - p by omega]
      · rw [if_neg h1, if_neg (by omega)]
    · rw [if_neg e, if_neg (by omega), ← List.getD_eq_getElem?_getD]
/-- Writing: the field lies in two words. -/
theorem write_two (ns : List Nat) (p w n : Nat) (hw : w ≤ 64) (ha : AllW ns) (h : ¬ p % 64 + w ≤ 64) (hl : p / 64 + 1 < ns.length) (hn : n < 18446744073709551616) :
    (ns.set (p / 64) (put1 (ns.getD (p / 64) 0) (2 ^ w - 1) (n &&& (2 ^ w - 1)) (p % 64))).set (p / 64 + 1) (put2 (ns.getD (p / 64 + 1) 0) (2 ^ w - 1) (n &&& (2 ^ w - 1)) (64 - p % 64)) = setW ns p w n := by
  refine words_ext (by simp [setW_len]) ?_ (setW_all _ _ _ _) ?_
  · intro x hx
    rcases List.mem_or_eq_of_mem_set hx with hx | rfl
    · rcases List.mem_or_eq_of_mem_set hx with hx | rfl
      · exact ha x hx
      · exact put1_lt _ _ _ _ (ha.at_ _)
    · exact put2_lt _ _ _ _ (ha.at_ _) (Nat.lt_of_le_of_lt Nat.and_le_left hn)
  · intro i hi
    rw [List.length_set, List.length_set] at hi
    rw [setW_bit _ _ _ _ _ hi]
    unfold bitAt
    rw [List.getD_eq_getElem?_getD, List.getElem?_set, List.length_set]
    by_cases e2 : p / 64 + 1 = i / 64
    · rw [if_pos e2, if_pos hl]
      show (put2 _ _ _ _).testBit _ = _
      rw [put2_bit _ _ _ _ _ hw (Nat.mod_lt _ (by decide)), ← e2]
      by_cases h1 : i % 64 + (64 - p % 64) < w
      · rw [if_pos h1, if_pos (by omega), show i % 64 + (64 - p % 64) = i - p by omega]
      · rw [if_neg h1, if_neg (by omega)]
    · rw [if_neg e2, List.getElem?_set]
      by_cases e : p / 64 = i / 64
      · rw [if_pos e, if_pos (by omega)]
        show (put1 _ _ _ _).testBit _ = _
        rw [put1_bit _ _ _ _ _ hw (Nat.mod_lt _ (by decide)), ← e]
        by_cases h1 : p % 64 ≤ i % 64 ∧ i % 64 < p % 64 + w
        · rw [if_pos h1, if_pos (by omega), show i % 64 - p % 64 = i - p by omega]
        · rw [if_neg h1, if_neg (by omega)]
      · rw [if_neg e, if_neg (by omega), ← List.getD_eq_getElem?_getD]
theorem set_none (ns : List Nat) (p n : Nat) (ha : AllW ns) : setW ns p 0 n = ns := by
  refine words_ext (setW_len _ _ _ _) (setW_all _ _ _ _) ha ?_
  intro i hi
  rw [setW_len] at hi
  rw [setW_bit _ _ _ _ _ hi, if_neg (by omega)]
end Go.Proofs.YtknehglahdkafaaDoor
