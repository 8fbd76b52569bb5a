/- Plain arithmetic of mixed numbers: steps of 64 bits that can be taken back. No Go text. -/
import Derived.Lib.Hide
namespace Go.Proofs.YtgcdminjpdbchaaDoor
set_option linter.unusedVariables false

/-- n XOR n shifted right. -/
def sx (n s : Nat) : Nat := n ^^^ (n >>> s)
/-- A product of 64 bits (behind a choice, so that nothing counts it up). -/
theorem mulW_ex : ∃ f : Nat → Nat → Nat, ∀ a c, f a c = a * c % 18446744073709551616 := ⟨_, fun _ _ => rfl⟩
noncomputable def mulW (a c : Nat) : Nat := Classical.choose mulW_ex a c
theorem mulW_eq (a c : Nat) : mulW a c = a * c % 18446744073709551616 := Classical.choose_spec mulW_ex a c
def U (n : Nat) : Prop := n < 18446744073709551616
def c1 : Nat := 0x9e3779b97f4a7c15
def c2 : Nat := 0xbf58476d1ce4e5b9
def b1 : Nat := 0xf1de83e19937733d
def b2 : Nat := 0x96de1b173f119089
noncomputable def mixN (n : Nat) : Nat := sx (mulW (sx (mulW (sx n 32) c1) 29) c2) 32
/-- What takes sx back. -/
def us (n s : Nat) : Nat := if s = 32 then n ^^^ (n >>> 32) else (n ^^^ (n >>> 29)) ^^^ (n >>> 58)
noncomputable def unmixN (n : Nat) : Nat := us (mulW (us (mulW (us n 32) b2) 29) b1) 32

theorem shr_u {n : Nat} (s : Nat) (h : U n) : U (n >>> s) := by
  unfold U at *; rw [Nat.shiftRight_eq_div_pow]; exact Nat.lt_of_le_of_lt (Nat.div_le_self _ _) h
theorem xor_u {a b : Nat} (ha : U a) (hb : U b) : U (a ^^^ b) := Nat.xor_lt_two_pow (n := 64) ha hb
theorem sx_u {n : Nat} (s : Nat) (h : U n) : U (sx n s) := xor_u h (shr_u s h)
theorem mulW_u (a c : Nat) : U (mulW a c) := by rw [mulW_eq]; exact Nat.mod_lt _ (by decide)
theorem us_u {n : Nat} (s : Nat) (h : U n) : U (us n s) := by
  unfold us; split
  · exact xor_u h (shr_u _ h)
  · exact xor_u (xor_u h (shr_u _ h)) (shr_u _ h)
theorem mixN_u {n : Nat} (h : U n) : U (mixN n) := sx_u _ (mulW_u _ _)
theorem unmixN_u {n : Nat} (h : U n) : U (unmixN n) := us_u _ (mulW_u _ _)
theorem high {n j : Nat} (h : U n) (hj : 64 ≤ j) : n.testBit j = false :=
  Nat.testBit_lt_two_pow (Nat.lt_of_lt_of_le h (Nat.le_trans (Nat.le_refl (2 ^ 64)) (Nat.pow_le_pow_right (by decide) hj)))
theorem bx (a b c : Bool) : (a ^^ b) ^^ c = (a ^^ (b ^^ c)) := by cases a <;> cases b <;> cases c <;> rfl
theorem us_sx32 {n : Nat} (h : U n) : us (sx n 32) 32 = n := by
  unfold us sx
  rw [if_pos rfl]
  apply Nat.eq_of_testBit_eq
  intro j
  simp only [Nat.testBit_xor, Nat.testBit_shiftRight]
  rw [show 32 + (32 + j) = 64 + j by omega, high h (show 64 ≤ 64 + j by omega)]
  cases n.testBit j <;> cases n.testBit (32 + j) <;> rfl
theorem sx_us32 {n : Nat} (h : U n) : sx (us n 32) 32 = n := by
  have := us_sx32 h
  unfold us sx at *
  rw [if_pos rfl] at *
  exact this
theorem us_sx29 {n : Nat} (h : U n) : us (sx n 29) 29 = n := by
  unfold us sx
  rw [if_neg (by decide)]
  apply Nat.eq_of_testBit_eq
  intro j
  simp only [Nat.testBit_xor, Nat.testBit_shiftRight]
  rw [show 29 + (58 + j) = 87 + j by omega, show 29 + (29 + j) = 58 + j by omega, high h (show 64 ≤ 87 + j by omega)]
  cases n.testBit j <;> cases n.testBit (29 + j) <;> cases n.testBit (58 + j) <;> rfl
theorem sx_us29 {n : Nat} (h : U n) : sx (us n 29) 29 = n := by
  unfold us sx
  rw [if_neg (by decide)]
  apply Nat.eq_of_testBit_eq
  intro j
  simp only [Nat.testBit_xor, Nat.testBit_shiftRight]
  rw [show 58 + (29 + j) = 87 + j by omega, show 29 + (29 + j) = 58 + j by omega, high h (show 64 ≤ 87 + j by omega)]
  cases n.testBit j <;> cases n.testBit (29 + j) <;> cases n.testBit (58 + j) <;> rfl
theorem mul_back {a c b : Nat} (h : U a) (hc : c * b % 18446744073709551616 = 1) : mulW (mulW a c) b = a := by
  rw [mulW_eq, mulW_eq, Nat.mod_mul_mod, Nat.mul_assoc, Nat.mul_mod, hc, Nat.mul_one, Nat.mod_mod]
  exact Nat.mod_eq_of_lt h
theorem unmix_mix {n : Nat} (h : U n) : unmixN (mixN n) = n := by
  unfold unmixN mixN
  rw [us_sx32 (mulW_u _ _), mul_back (sx_u _ (mulW_u _ _)) (by decide +kernel), us_sx29 (mulW_u _ _), mul_back (sx_u _ h) (by decide +kernel), us_sx32 h]
theorem mix_unmix {n : Nat} (h : U n) : mixN (unmixN n) = n := by
  unfold unmixN mixN
  rw [sx_us32 (mulW_u _ _), mul_back (us_u _ (mulW_u _ _)) (by decide +kernel), sx_us29 (mulW_u _ _), mul_back (us_u _ h) (by decide +kernel), sx_us32 h]
theorem mix_inj {a b : Nat} (ha : U a) (hb : U b) : mixN a = mixN b ↔ a = b :=
  ⟨fun h => by rw [← unmix_mix ha, h, unmix_mix hb], fun h => by rw [h]⟩
theorem xor_inj {a b c : Nat} : a ^^^ c = b ^^^ c ↔ a = b := by
  constructor
  · intro h
    have : (a ^^^ c) ^^^ c = (b ^^^ c) ^^^ c := by rw [h]
    simpa [Nat.xor_assoc] using this
  · intro h; rw [h]
theorem xor_inj' {a b c : Nat} : c ^^^ a = c ^^^ b ↔ a = b := by rw [Nat.xor_comm c a, Nat.xor_comm c b]; exact xor_inj

/-- A byte more. -/
noncomputable def stepN (h : Nat) (c : UInt8) : Nat := mixN (h ^^^ (c.toNat + 1))
noncomputable def runN (h : Nat) (l : List UInt8) : Nat := l.foldl stepN h
noncomputable def sumN (seed : Nat) (l : List UInt8) : Nat := mixN (runN (mixN seed) l ^^^ l.length)
theorem byte_u (c : UInt8) : U (c.toNat + 1) := by have := c.toNat_lt; unfold U; omega
theorem stepN_u {h : Nat} (hh : U h) (c : UInt8) : U (stepN h c) := mixN_u (xor_u hh (byte_u c))
theorem runN_u {h : Nat} (hh : U h) (l : List UInt8) : U (runN h l) := by
  unfold runN
  induction l generalizing h with
  | nil => exact hh
  | cons c l ih => exact ih (stepN_u hh c)
theorem runN_snoc (h : Nat) (l : List UInt8) (c : UInt8) : runN h (l ++ [c]) = stepN (runN h l) c := by unfold runN; rw [List.foldl_append, List.foldl_cons, List.foldl_nil]
theorem sumN_u {s : Nat} (hs : U s) {l : List UInt8} (hl : U l.length) : U (sumN s l) := mixN_u (xor_u (runN_u (mixN_u hs) l) hl)
theorem step_inj {a b : Nat} (ha : U a) (hb : U b) (c : UInt8) : stepN a c = stepN b c ↔ a = b := by
  unfold stepN; rw [mix_inj (xor_u ha (byte_u c)) (xor_u hb (byte_u c)), xor_inj]
theorem step_inj' {a : Nat} (ha : U a) (c d : UInt8) : stepN a c = stepN a d ↔ c = d := by
  unfold stepN; rw [mix_inj (xor_u ha (byte_u c)) (xor_u ha (byte_u d)), xor_inj']
  constructor
  · intro h; exact UInt8.toNat_inj.1 (by omega)
  · intro h; rw [h]
theorem run_inj {a b : Nat} (ha : U a) (hb : U b) (l : List UInt8) : runN a l = runN b l ↔ a = b := by
  unfold runN
  induction l generalizing a b with
  | nil => exact Iff.rfl
  | cons c l ih => exact (ih (stepN_u ha c) (stepN_u hb c)).trans (step_inj ha hb c)
theorem sum_seeds {a b : Nat} (ha : U a) (hb : U b) {l : List UInt8} (hl : U l.length) : sumN a l = sumN b l ↔ a = b := by
  unfold sumN
  rw [mix_inj (xor_u (runN_u (mixN_u ha) l) hl) (xor_u (runN_u (mixN_u hb) l) hl), xor_inj, run_inj (mixN_u ha) (mixN_u hb), mix_inj ha hb]
theorem sum_last {s : Nat} (hs : U s) {l : List UInt8} (hl : U (l.length + 1)) (c d : UInt8) : sumN s (l ++ [c]) = sumN s (l ++ [d]) ↔ c = d := by
  have hr := runN_u (mixN_u hs) l
  unfold sumN
  rw [runN_snoc, runN_snoc, List.length_append, List.length_append]
  simp only [List.length_cons, List.length_nil]
  rw [mix_inj (xor_u (stepN_u hr c) hl) (xor_u (stepN_u hr d) hl), xor_inj, step_inj' hr]
theorem sum_on {s : Nat} (hs : U s) {l m : List UInt8} (hl : U (l.length + 1)) (e : l.length = m.length) (c : UInt8) :
    (sumN s l = sumN s m) ↔ (sumN s (l ++ [c]) = sumN s (m ++ [c])) := by
  have h1 := runN_u (mixN_u hs) l
  have h2 := runN_u (mixN_u hs) m
  have h0 : U l.length := by unfold U at *; omega
  unfold sumN
  rw [runN_snoc, runN_snoc, List.length_append, List.length_append, ← e]
  simp only [List.length_cons, List.length_nil]
  rw [mix_inj (xor_u (stepN_u h1 c) hl) (xor_u (stepN_u h2 c) hl), xor_inj, step_inj h1 h2, mix_inj (xor_u h1 h0) (xor_u h2 h0), xor_inj]

/-- The highest bits. -/
def homeN (n k : Nat) : Nat := n >>> (64 - k)
theorem home_lt {n k : Nat} (h : U n) (hk : k ≤ 64) : homeN n k < 2 ^ k := by
  unfold homeN U at *
  rw [Nat.shiftRight_eq_div_pow]
  have : 2 ^ k * 2 ^ (64 - k) = 18446744073709551616 := by
    rw [← Nat.pow_add, show k + (64 - k) = 64 by omega]
  exact Nat.div_lt_of_lt_mul (by rw [Nat.mul_comm, this]; exact h)
theorem home_succ (n k : Nat) (hk : k < 64) : homeN n k = homeN n (k + 1) / 2 := by
  unfold homeN
  rw [show 64 - k = (64 - (k + 1)) + 1 by omega, Nat.shiftRight_succ]

/-- What odd reckons: after i rounds. -/
def oddTo (m : Nat) : Nat → Nat
  | 0 => 1
  | i + 1 => oddTo m i * ((18446744073709551618 - m * oddTo m i % 18446744073709551616) % 18446744073709551616) % 18446744073709551616
theorem oddTo_u (m i : Nat) : U (oddTo m i) := by
  cases i with
  | zero => exact (by decide : (1:Nat) < 18446744073709551616)
  | succ i => exact Nat.mod_lt _ (by decide)
theorem odd_c1 : oddTo c1 6 = b1 := by decide +kernel
theorem odd_c2 : oddTo c2 6 = b2 := by decide +kernel

/-- What back reckons: after i rounds. -/
def backTo (n s : Nat) : Nat → Nat
  | 0 => n
  | i + 1 => n ^^^ (backTo n s i >>> s)
theorem backTo_u {n : Nat} (h : U n) (s i : Nat) : U (backTo n s i) := by
  cases i with
  | zero => exact h
  | succ i => exact xor_u h (shr_u _ (backTo_u h s i))
theorem back32 {n : Nat} (h : U n) (i : Nat) : backTo n 32 (i + 1) = us n 32 := by
  induction i with
  | zero => simp [backTo, us]
  | succ i ih =>
    rw [backTo, ih]
    unfold us
    rw [if_pos rfl]
    apply Nat.eq_of_testBit_eq
    intro j
    simp only [Nat.testBit_xor, Nat.testBit_shiftRight]
    rw [show 32 + (32 + j) = 64 + j by omega, high h (show 64 ≤ 64 + j by omega)]
    cases n.testBit j <;> cases n.testBit (32 + j) <;> rfl
theorem back29 {n : Nat} (h : U n) (i : Nat) : backTo n 29 (i + 2) = us n 29 := by
  induction i with
  | zero =>
    simp only [backTo]
    unfold us
    rw [if_neg (by decide)]
    apply Nat.eq_of_testBit_eq
    intro j
    simp only [Nat.testBit_xor, Nat.testBit_shiftRight]
    rw [show 29 + (29 + j) = 58 + j by omega]
    cases n.testBit j <;> cases n.testBit (29 + j) <;> cases n.testBit (58 + j) <;> rfl
  | succ i ih =>
    rw [backTo, ih]
    unfold us
    rw [if_neg (by decide)]
    apply Nat.eq_of_testBit_eq
    intro j
    simp only [Nat.testBit_xor, Nat.testBit_shiftRight]
    rw [show 58 + (29 + j) = 87 + j by omega, show 29 + (29 + j) = 58 + j by omega, high h (show 64 ≤ 87 + j by omega)]
    cases n.testBit j <;> cases n.testBit (29 + j) <;> cases n.testBit (58 + j) <;> rfl
/-- The number of a book, without a sign. -/
def unS (b : Int) : Nat := (b % 18446744073709551616).toNat
theorem unS_u (b : Int) : U (unS b) := by unfold U unS; omega
theorem unS_inj {a b : Int} (ha : -9223372036854775808 ≤ a ∧ a < 9223372036854775808) (hb : -9223372036854775808 ≤ b ∧ b < 9223372036854775808) : unS a = unS b ↔ a = b := by
  unfold unS; constructor
  · intro h; omega
  · intro h; rw [h]
noncomputable def nameN (seed : Nat) (book : Int) (l : List UInt8) : Nat := sumN (mixN (seed ^^^ unS book)) l
end Go.Proofs.YtgcdminjpdbchaaDoor
