/- Plain arithmetic: how many bits of a word are 1, by the steps of math/bits.OnesCount64; the lowest one, by its trailing zeros. No Go text. -/
import Derived.Test.YtknehglahdkafaaDoorBits0
import Derived.Lib.TrailingZeros
namespace Go.Proofs.YtknehglahdkafaaDoor
set_option linter.unusedVariables false

/-- How many of the k lowest bits are 1. -/
def popc : Nat → Nat → Nat
  | 0, _ => 0
  | k + 1, x => popc k x + (x.testBit k).toNat
def ofBytes : List Nat → Nat
  | [] => 0
  | b :: bs => b + 256 * ofBytes bs
def bytesOf : Nat → Nat → List Nat
  | 0, _ => []
  | k + 1, x => x % 256 :: bytesOf k (x / 256)
theorem bytesOf_len (k x : Nat) : (bytesOf k x).length = k := by
  induction k generalizing x with
  | zero => rfl
  | succ k ih => simp [bytesOf, ih]
theorem bytesOf_lt (k x : Nat) : ∀ b ∈ bytesOf k x, b < 256 := by
  induction k generalizing x with
  | zero => intro b hb; cases hb
  | succ k ih =>
    intro b hb
    simp only [bytesOf, List.mem_cons] at hb
    rcases hb with rfl | hb
    · exact Nat.mod_lt _ (by decide)
    · exact ih _ b hb
theorem ofBytes_bytesOf (k x : Nat) (h : x < 256 ^ k) : ofBytes (bytesOf k x) = x := by
  induction k generalizing x with
  | zero => simp at h; subst h; rfl
  | succ k ih =>
    have : x / 256 < 256 ^ k := by rw [Nat.pow_succ] at h; omega
    simp only [bytesOf, ofBytes, ih _ this]; omega
theorem bit_low (b y j : Nat) (hb : b < 256) : (b + 256 * y).testBit j = if j < 8 then b.testBit j else y.testBit (j - 8) := by
  rw [Nat.add_comm, show 256 * y = 2 ^ 8 * y from rfl, Nat.testBit_two_pow_mul_add _ (by simpa using hb)]
theorem popc_succ (k x : Nat) : popc (k + 1) x = popc k x + (x.testBit k).toNat := rfl
theorem popc_congr (k x y : Nat) (h : ∀ j, j < k → x.testBit j = y.testBit j) : popc k x = popc k y := by
  induction k with
  | zero => rfl
  | succ k ih => simp only [popc]; rw [ih (fun j hj => h j (by omega)), h k (by omega)]
theorem popc_split (k b y : Nat) (hb : b < 256) : popc (k + 8) (b + 256 * y) = popc 8 b + popc k y := by
  induction k with
  | zero =>
    rw [Nat.zero_add, popc_congr 8 (b + 256 * y) b (fun j hj => by rw [bit_low _ _ _ hb, if_pos hj])]
    rfl
  | succ k ih =>
    rw [show k + 1 + 8 = (k + 8) + 1 by omega, popc_succ (k + 8), ih, bit_low _ _ _ hb, if_neg (by omega), show k + 8 - 8 = k by omega, popc_succ k y]
    omega
theorem popc_bytes (bs : List Nat) (h : ∀ b ∈ bs, b < 256) : popc (8 * bs.length) (ofBytes bs) = (bs.map (popc 8)).sum := by
  induction bs with
  | nil => rfl
  | cons b bs ih =>
    have h1 := ih (fun b hb => h b (by simp [hb]))
    rw [List.length_cons, show 8 * (bs.length + 1) = 8 * bs.length + 8 by omega]
    simp only [ofBytes, List.map_cons, List.sum_cons]
    rw [popc_split _ _ _ (h b (by simp)), h1]
theorem mask_one (s m b y M : Nat) (hs : s ≤ 8) (hm : m < 2 ^ (8 - s)) (hb : b < 256) : ((b + 256 * y) >>> s) &&& (m + 256 * M) = ((b >>> s) &&& m) + 256 * ((y >>> s) &&& M) := by
  have hm8 : m < 256 := Nat.lt_of_lt_of_le hm (Nat.pow_le_pow_right (n := 2) (by decide) (show 8 - s ≤ 8 by omega))
  have hlo : (b >>> s) &&& m < 256 := Nat.lt_of_le_of_lt Nat.and_le_right hm8
  apply Nat.eq_of_testBit_eq
  intro j
  rw [Nat.testBit_and, Nat.testBit_shiftRight, bit_low _ _ _ hb, bit_low _ _ _ hm8, bit_low _ _ _ hlo, Nat.testBit_and, Nat.testBit_and, Nat.testBit_shiftRight, Nat.testBit_shiftRight]
  by_cases hj : j < 8
  · rw [if_pos hj, if_pos hj]
    by_cases hj2 : s + j < 8
    · rw [if_pos hj2]
    · have : m.testBit j = false := Nat.testBit_lt_two_pow (Nat.lt_of_lt_of_le hm (Nat.pow_le_pow_right (by decide) (by omega)))
      simp [this]
  · rw [if_neg hj, if_neg hj, if_neg (by omega), show s + j - 8 = s + (j - 8) by omega]
theorem mask_all (s m : Nat) (hs : s ≤ 8) (hm : m < 2 ^ (8 - s)) (bs : List Nat) (h : ∀ b ∈ bs, b < 256) :
    ofBytes bs >>> s &&& ofBytes (bs.map fun _ => m) = ofBytes (bs.map fun b => (b >>> s) &&& m) := by
  induction bs with
  | nil => simp [ofBytes]
  | cons b bs ih =>
    simp only [List.map_cons, ofBytes]
    rw [mask_one s m _ _ _ hs hm (h b (by simp)), ih (fun b hb => h b (by simp [hb]))]
theorem add_bytes (f g : Nat → Nat) (bs : List Nat) : ofBytes (bs.map f) + ofBytes (bs.map g) = ofBytes (bs.map fun b => f b + g b) := by
  induction bs with
  | nil => rfl
  | cons b bs ih => simp only [List.map_cons, ofBytes]; rw [← ih]; omega
/-- The third step: nibbles of at most 4 are put together. -/
theorem fold_nibbles (bs : List Nat) (h : ∀ b ∈ bs, b % 16 ≤ 4 ∧ b / 16 ≤ 4) :
    (ofBytes bs >>> 4 + ofBytes bs) &&& ofBytes (bs.map fun _ => 15) = ofBytes (bs.map fun b => b % 16 + b / 16) ∧ (∀ c bs', bs = c :: bs' → ofBytes bs % 16 ≤ 4) := by
  induction bs with
  | nil => simp [ofBytes]
  | cons b bs ih =>
    obtain ⟨ih1, ih2⟩ := ih (fun b hb => h b (by simp [hb]))
    have hb := h b (by simp)
    have hy : ofBytes bs % 16 ≤ 4 := by
      cases bs with
      | nil => simp [ofBytes]
      | cons c bs' => exact ih2 c bs' rfl
    refine ⟨?_, fun c bs' e => by injection e with e1 e2; subst e1; subst e2; simp only [ofBytes]; omega⟩
    simp only [List.map_cons, ofBytes]
    have e1 : (b + 256 * ofBytes bs) >>> 4 + (b + 256 * ofBytes bs) = ((b % 16 + b / 16) + 16 * (b / 16 + ofBytes bs % 16)) + 256 * (ofBytes bs >>> 4 + ofBytes bs) := by
      rw [Nat.shiftRight_eq_div_pow, Nat.shiftRight_eq_div_pow]; omega
    have lo : (b % 16 + b / 16) + 16 * (b / 16 + ofBytes bs % 16) < 256 := by omega
    have := mask_one 0 15 ((b % 16 + b / 16) + 16 * (b / 16 + ofBytes bs % 16)) (ofBytes bs >>> 4 + ofBytes bs) (ofBytes (bs.map fun _ => 15)) (by decide) (by decide) lo
    simp only [Nat.shiftRight_zero] at this
    rw [e1, this, ih1]
    congr 1
    rw [show (15 : Nat) = 2 ^ 4 - 1 from rfl, Nat.and_two_pow_sub_one_eq_mod]
    omega

def st1 (b : Nat) : Nat := ((b >>> 1) &&& 85) + (b &&& 85)
def st2 (b : Nat) : Nat := ((b >>> 2) &&& 51) + (b &&& 51)
def st3 (b : Nat) : Nat := b % 16 + b / 16
theorem st_byte : ∀ b : Fin 256, st1 b.val < 256 ∧ st2 (st1 b.val) < 256 ∧ st2 (st1 b.val) % 16 ≤ 4 ∧ st2 (st1 b.val) / 16 ≤ 4 ∧ st3 (st2 (st1 b.val)) = popc 8 b.val ∧ popc 8 b.val ≤ 8 := by decide +kernel
theorem st_byte' (b : Nat) (h : b < 256) : st1 b < 256 ∧ st2 (st1 b) < 256 ∧ st2 (st1 b) % 16 ≤ 4 ∧ st2 (st1 b) / 16 ≤ 4 ∧ st3 (st2 (st1 b)) = popc 8 b ∧ popc 8 b ≤ 8 := st_byte ⟨b, h⟩

def sw1 (x : Nat) : Nat := (x >>> 1 &&& 6148914691236517205) + (x &&& 6148914691236517205)
def sw2 (x : Nat) : Nat := (x >>> 2 &&& 3689348814741910323) + (x &&& 3689348814741910323)
def sw3 (x : Nat) : Nat := (x >>> 4 + x) &&& 1085102592571150095
theorem sw_bytes (bs : List Nat) (hl : bs.length = 8) (h : ∀ b ∈ bs, b < 256) :
    sw1 (ofBytes bs) = ofBytes (bs.map st1) ∧ sw2 (sw1 (ofBytes bs)) = ofBytes (bs.map fun b => st2 (st1 b)) ∧ sw3 (sw2 (sw1 (ofBytes bs))) = ofBytes (bs.map (popc 8)) := by
  have m1 : ofBytes (bs.map fun _ => 85) = 6148914691236517205 := by
    match bs, hl with
    | [_, _, _, _, _, _, _, _], _ => simp [ofBytes]
  have m2 : ofBytes (bs.map fun _ => 51) = 3689348814741910323 := by
    match bs, hl with
    | [_, _, _, _, _, _, _, _], _ => simp [ofBytes]
  have m3 : ofBytes (bs.map fun _ => 15) = 1085102592571150095 := by
    match bs, hl with
    | [_, _, _, _, _, _, _, _], _ => simp [ofBytes]
  have e1 : sw1 (ofBytes bs) = ofBytes (bs.map st1) := by
    unfold sw1
    have a1 := mask_all 1 85 (by decide) (by decide) bs h
    have a2 := mask_all 0 85 (by decide) (by decide) bs h
    simp only [Nat.shiftRight_zero] at a2
    rw [m1] at a1 a2
    rw [a1, a2, add_bytes]
    rfl
  have h1 : ∀ b ∈ bs.map st1, b < 256 := by
    intro b hb
    obtain ⟨c, hc, rfl⟩ := List.mem_map.1 hb
    exact (st_byte' c (h c hc)).1
  have e2 : sw2 (sw1 (ofBytes bs)) = ofBytes (bs.map fun b => st2 (st1 b)) := by
    rw [e1]
    unfold sw2
    have a1 := mask_all 2 51 (by decide) (by decide) (bs.map st1) h1
    have a2 := mask_all 0 51 (by decide) (by decide) (bs.map st1) h1
    simp only [Nat.shiftRight_zero] at a2
    rw [List.map_map, show ((fun _ => 51) ∘ st1 : Nat → Nat) = fun _ => 51 from rfl, m2] at a1 a2
    rw [a1, a2, List.map_map, List.map_map, add_bytes]
    rfl
  refine ⟨e1, e2, ?_⟩
  rw [e2]
  unfold sw3
  have a1 := (fold_nibbles (bs.map fun b => st2 (st1 b)) (by
    intro b hb
    obtain ⟨c, hc, rfl⟩ := List.mem_map.1 hb
    exact ⟨(st_byte' c (h c hc)).2.2.1, (st_byte' c (h c hc)).2.2.2.1⟩)).1
  rw [List.map_map, show ((fun _ => 15) ∘ (fun b => st2 (st1 b)) : Nat → Nat) = fun _ => 15 from rfl, m3] at a1
  rw [a1, List.map_map]
  congr 1
  apply List.map_congr_left
  intro b hb
  exact (st_byte' b (h b hb)).2.2.2.2.1
/-- What OnesCount64 reckons, step by step. -/
def ones64 (x : Nat) : Nat :=
  let c := sw3 (sw2 (sw1 x))
  let d := c + c >>> 8
  let e := d + d >>> 16
  (e + e >>> 32) % 128
theorem dl {a y : Nat} (h : a < 256) : (a + 256 * y) / 256 = y := by omega
theorem sum_low (c0 c1 c2 c3 c4 c5 c6 c7 : Nat) (h0 : c0 ≤ 8) (h1 : c1 ≤ 8) (h2 : c2 ≤ 8) (h3 : c3 ≤ 8) (h4 : c4 ≤ 8) (h5 : c5 ≤ 8) (h6 : c6 ≤ 8) (h7 : c7 ≤ 8) (c d e : Nat)
    (hc : c = ofBytes [c0, c1, c2, c3, c4, c5, c6, c7]) (hd : d = c + c / 256) (he : e = d + d / 65536) :
    (e + e / 4294967296) % 128 = c0 + c1 + c2 + c3 + c4 + c5 + c6 + c7 ∧ e + e / 4294967296 < 18446744073709551616 ∧ d < 18446744073709551616 ∧ e < 18446744073709551616 := by
  simp only [ofBytes] at hc
  obtain ⟨y7, e7⟩ : ∃ y, y = c7 + 256 * 0 := ⟨_, rfl⟩
  rw [← e7] at hc
  obtain ⟨y6, e6⟩ : ∃ y, y = c6 + 256 * y7 := ⟨_, rfl⟩
  rw [← e6] at hc
  obtain ⟨y5, e5⟩ : ∃ y, y = c5 + 256 * y6 := ⟨_, rfl⟩
  rw [← e5] at hc
  obtain ⟨y4, e4⟩ : ∃ y, y = c4 + 256 * y5 := ⟨_, rfl⟩
  rw [← e4] at hc
  obtain ⟨y3, e3⟩ : ∃ y, y = c3 + 256 * y4 := ⟨_, rfl⟩
  rw [← e3] at hc
  obtain ⟨y2, e2⟩ : ∃ y, y = c2 + 256 * y3 := ⟨_, rfl⟩
  rw [← e2] at hc
  obtain ⟨y1, e1⟩ : ∃ y, y = c1 + 256 * y2 := ⟨_, rfl⟩
  rw [← e1] at hc
  have b7 : y7 ≤ 8 := by omega
  have b6 : y6 ≤ 2056 := by omega
  have b5 : y5 ≤ 526344 := by omega
  have b4 : y4 ≤ 134744072 := by omega
  have b3 : y3 ≤ 34494482440 := by omega
  have b2 : y2 ≤ 8830587504648 := by omega
  have b1 : y1 ≤ 2260630401189896 := by omega
  have b0 : c ≤ 578721382704613384 := by omega
  have q1 : c / 256 = y1 := by rw [hc]; exact dl (by omega)
  rw [q1] at hd
  have d0 : d = (c0 + c1) + 256 * (y1 + y2) := by omega
  have d1 : d / 65536 = y2 + y3 := by
    rw [show d / 65536 = d / 256 / 256 by rw [Nat.div_div_eq_div_mul], d0, dl (by omega), show y1 + y2 = (c1 + c2) + 256 * (y2 + y3) by omega, dl (by omega)]
  rw [d1] at he
  have e0 : e = (c0 + c1 + c2 + c3) + 256 * (y1 + y2 + y3 + y4) := by omega
  have x1 : y1 + y2 + y3 + y4 = (c1 + c2 + c3 + c4) + 256 * (y2 + y3 + y4 + y5) := by omega
  have x2 : y2 + y3 + y4 + y5 = (c2 + c3 + c4 + c5) + 256 * (y3 + y4 + y5 + y6) := by omega
  have x3 : y3 + y4 + y5 + y6 = (c3 + c4 + c5 + c6) + 256 * (y4 + y5 + y6 + y7) := by omega
  have x4 : e / 4294967296 = y4 + y5 + y6 + y7 := by
    rw [show e / 4294967296 = e / 256 / 256 / 256 / 256 by rw [Nat.div_div_eq_div_mul, Nat.div_div_eq_div_mul, Nat.div_div_eq_div_mul], e0, dl (by omega), x1, dl (by omega), x2, dl (by omega), x3, dl (by omega)]
  rw [x4]
  have x5 : y4 + y5 + y6 + y7 = (c4 + c5 + c6 + c7) + 256 * (y5 + y6 + y7) := by omega
  refine ⟨?_, ?_, ?_, ?_⟩
  · rw [e0, x5]
    clear d0 d1 e0 x1 x2 x3 x4 x5 he hd q1 hc e1 e2 e3 e4 e5 e6 e7 b0 b1 b2 b3 b4 b5 b6 b7
    omega
  · clear d0 d1 e0 x1 x2 x3 x4 x5 q1 hc e1 e2 e3 e4 e5 e6 e7
    omega
  · clear d0 d1 e0 x1 x2 x3 x4 x5 q1 hc e1 e2 e3 e4 e5 e6 e7
    omega
  · clear d0 d1 e0 x1 x2 x3 x4 x5 q1 hc e1 e2 e3 e4 e5 e6 e7
    omega
theorem ofBytes_lt (bs : List Nat) (h : ∀ b ∈ bs, b < 256) : ofBytes bs < 256 ^ bs.length := by
  induction bs with
  | nil => decide
  | cons b bs ih =>
    have h1 := ih (fun b hb => h b (by simp [hb]))
    have h2 := h b (by simp)
    simp only [ofBytes, List.length_cons, Nat.pow_succ]
    omega
theorem ofBytes_half (bs : List Nat) (h : ∀ b ∈ bs, b < 128) : 2 * ofBytes bs < 256 ^ bs.length := by
  induction bs with
  | nil => decide
  | cons b bs ih =>
    have h1 := ih (fun b hb => h b (by simp [hb]))
    have h2 := h b (by simp)
    simp only [ofBytes, List.length_cons, Nat.pow_succ]
    omega
theorem ob8 (b0 b1 b2 b3 b4 b5 b6 b7 : Nat) (h0 : b0 < 256) (h1 : b1 < 256) (h2 : b2 < 256) (h3 : b3 < 256) (h4 : b4 < 256) (h5 : b5 < 256) (h6 : b6 < 256) (h7 : b7 < 256) : ofBytes [b0, b1, b2, b3, b4, b5, b6, b7] < 18446744073709551616 := by
  have h := ofBytes_lt [b0, b1, b2, b3, b4, b5, b6, b7] (by simp; omega)
  simpa only [List.length_cons, List.length_nil, Nat.reduceAdd, Nat.reducePow] using h
theorem ob8n (b0 b1 b2 b3 b4 b5 b6 b7 : Nat) (h0 : b0 ≤ 68) (h1 : b1 ≤ 68) (h2 : b2 ≤ 68) (h3 : b3 ≤ 68) (h4 : b4 ≤ 68) (h5 : b5 ≤ 68) (h6 : b6 ≤ 68) (h7 : b7 ≤ 68) : 2 * ofBytes [b0, b1, b2, b3, b4, b5, b6, b7] < 18446744073709551616 := by
  have h := ofBytes_half [b0, b1, b2, b3, b4, b5, b6, b7] (by simp; omega)
  simpa only [List.length_cons, List.length_nil, Nat.reduceAdd, Nat.reducePow] using h
theorem nib {b : Nat} (h : st1 b < 256 ∧ st2 (st1 b) < 256 ∧ st2 (st1 b) % 16 ≤ 4 ∧ st2 (st1 b) / 16 ≤ 4 ∧ st3 (st2 (st1 b)) = popc 8 b ∧ popc 8 b ≤ 8) : st2 (st1 b) ≤ 68 := by omega
theorem ones64_eq (x : Nat) (hx : x < 18446744073709551616) : ones64 x = popc 64 x ∧ popc 64 x ≤ 64 ∧ sw1 x < 18446744073709551616 ∧ sw2 (sw1 x) < 18446744073709551616 ∧
    sw2 (sw1 x) >>> 4 + sw2 (sw1 x) < 18446744073709551616 ∧ sw3 (sw2 (sw1 x)) + sw3 (sw2 (sw1 x)) >>> 8 < 18446744073709551616 ∧
    (∀ d, d = sw3 (sw2 (sw1 x)) + sw3 (sw2 (sw1 x)) >>> 8 → d + d >>> 16 < 18446744073709551616 ∧ ∀ e, e = d + d >>> 16 → e + e >>> 32 < 18446744073709551616) := by
  have hb : ofBytes (bytesOf 8 x) = x := ofBytes_bytesOf 8 x hx
  have hl := bytesOf_len 8 x
  have hlt := bytesOf_lt 8 x
  obtain ⟨s1, s2, s3⟩ := sw_bytes _ hl hlt
  have hp := popc_bytes _ hlt
  rw [hl] at hp
  rw [hb] at s1 s2 s3 hp
  match hbs : bytesOf 8 x, hl with
  | [b0, b1, b2, b3, b4, b5, b6, b7], _ =>
    rw [hbs] at s1 s2 s3 hp hlt
    have g : ∀ b ∈ [b0, b1, b2, b3, b4, b5, b6, b7], st1 b < 256 ∧ st2 (st1 b) < 256 ∧ st2 (st1 b) % 16 ≤ 4 ∧ st2 (st1 b) / 16 ≤ 4 ∧ st3 (st2 (st1 b)) = popc 8 b ∧ popc 8 b ≤ 8 := fun b hb => st_byte' b (hlt b hb)
    have g0 := g b0 (by simp)
    have g1 := g b1 (by simp)
    have g2 := g b2 (by simp)
    have g3 := g b3 (by simp)
    have g4 := g b4 (by simp)
    have g5 := g b5 (by simp)
    have g6 := g b6 (by simp)
    have g7 := g b7 (by simp)
    simp only [List.map_cons, List.map_nil] at s1 s2 s3
    simp only [List.map_cons, List.map_nil, List.sum_cons, List.sum_nil, show 8 * 8 = 64 from rfl] at hp
    obtain ⟨q1, q2, q3, q4⟩ := sum_low _ _ _ _ _ _ _ _ g0.2.2.2.2.2 g1.2.2.2.2.2 g2.2.2.2.2.2 g3.2.2.2.2.2 g4.2.2.2.2.2 g5.2.2.2.2.2 g6.2.2.2.2.2 g7.2.2.2.2.2 _ _ _ s3 rfl rfl
    refine ⟨?_, ?_, ?_, ?_, ?_, ?_, ?_⟩
    · unfold ones64
      simp only [Nat.shiftRight_eq_div_pow]
      rw [hp]
      refine q1.trans ?_
      simp only [Nat.add_assoc, Nat.add_zero]
    · rw [hp]; omega
    · rw [s1]; exact ob8 _ _ _ _ _ _ _ _ g0.1 g1.1 g2.1 g3.1 g4.1 g5.1 g6.1 g7.1
    · rw [s2]; exact ob8 _ _ _ _ _ _ _ _ g0.2.1 g1.2.1 g2.2.1 g3.2.1 g4.2.1 g5.2.1 g6.2.1 g7.2.1
    · have := ob8n _ _ _ _ _ _ _ _ (nib g0) (nib g1) (nib g2) (nib g3) (nib g4) (nib g5) (nib g6) (nib g7)
      rw [s2, Nat.shiftRight_eq_div_pow]
      have h2 := Nat.div_le_self (ofBytes [st2 (st1 b0), st2 (st1 b1), st2 (st1 b2), st2 (st1 b3), st2 (st1 b4), st2 (st1 b5), st2 (st1 b6), st2 (st1 b7)]) (2 ^ 4)
      omega
    · rw [Nat.shiftRight_eq_div_pow]; exact q3
    · intro d hd
      rw [Nat.shiftRight_eq_div_pow] at hd
      subst hd
      refine ⟨by rw [Nat.shiftRight_eq_div_pow]; exact q4, fun e he => ?_⟩
      rw [Nat.shiftRight_eq_div_pow] at he
      subst he
      rw [Nat.shiftRight_eq_div_pow]; exact q2

/-- How many bits below place k are 1. -/
def cnt (ns : List Nat) : Nat → Nat
  | 0 => 0
  | k + 1 => cnt ns k + (bitAt ns k).toNat
theorem cnt_le (ns : List Nat) (k : Nat) : cnt ns k ≤ k := by
  induction k with
  | zero => exact Nat.le_refl _
  | succ k ih => simp only [cnt]; have := Bool.toNat_le (bitAt ns k); omega
theorem cnt_word (ns : List Nat) (j b : Nat) (hb : b ≤ 64) : cnt ns (64 * j + b) = cnt ns (64 * j) + popc b (ns.getD j 0) := by
  induction b with
  | zero => rfl
  | succ b ih =>
    rw [← Nat.add_assoc]
    simp only [cnt, popc]
    rw [ih (by omega)]
    unfold bitAt
    rw [show (64 * j + b) / 64 = j by omega, show (64 * j + b) % 64 = b by omega]
    omega

/-- The first bit from i on that is 1, among so many. -/
def nextFrom (ns : List Nat) (i : Nat) : Nat → Nat × Bool
  | 0 => (0, false)
  | k + 1 => if bitAt ns i then (i, true) else nextFrom ns (i + 1) k
theorem nextFrom_yes (ns : List Nat) (t : Nat) : ∀ (k i : Nat), i ≤ t → t < i + k → bitAt ns t = true → (∀ j, i ≤ j → j < t → bitAt ns j = false) → nextFrom ns i k = (t, true) := by
  intro k
  induction k with
  | zero => intro i h1 h2; omega
  | succ k ih =>
    intro i h1 h2 h3 h4
    simp only [nextFrom]
    by_cases e : i = t
    · subst e; rw [if_pos h3]
    · rw [if_neg (by rw [h4 i (Nat.le_refl _) (by omega)]; simp)]
      exact ih (i + 1) (by omega) (by omega) h3 (fun j hj => h4 j (by omega))
theorem nextFrom_no (ns : List Nat) : ∀ (k i : Nat), (∀ j, i ≤ j → j < i + k → bitAt ns j = false) → nextFrom ns i k = (0, false) := by
  intro k
  induction k with
  | zero => intro i _; rfl
  | succ k ih =>
    intro i h
    simp only [nextFrom]
    rw [if_neg (by rw [h i (Nat.le_refl _) (by omega)]; simp)]
    exact ih (i + 1) (fun j h1 h2 => h j (by omega) (by omega))
/-- The first bit of words from f on that is 1. -/
def nextN (ns : List Nat) (f : Nat) : Nat × Bool := nextFrom ns f (64 * ns.length - f)
theorem ctz_bits (x : Nat) (h0 : x ≠ 0) (h : x < 18446744073709551616) : Lib.ctz 64 x < 64 ∧ x.testBit (Lib.ctz 64 x) = true ∧ ∀ j, j < Lib.ctz 64 x → x.testBit j = false := by
  have e : Lib.ctz 64 x = Lib.ctzFrom 64 x := by unfold Lib.ctz; rw [if_neg h0]
  rw [e]
  obtain ⟨m, hm, hlt⟩ := Lib.ctzFrom_spec 64 x (by omega) h
  generalize Lib.ctzFrom 64 x = t at *
  refine ⟨hlt, ?_, fun j hj => ?_⟩
  · rw [hm, show 2 ^ t * (2 * m + 1) = (2 * m + 1) <<< t by rw [Nat.shiftLeft_eq, Nat.mul_comm], Nat.testBit_shiftLeft]
    simp
  · rw [hm, show 2 ^ t * (2 * m + 1) = (2 * m + 1) <<< t by rw [Nat.shiftLeft_eq, Nat.mul_comm], Nat.testBit_shiftLeft]
    simp; omega
end Go.Proofs.YtknehglahdkafaaDoor
