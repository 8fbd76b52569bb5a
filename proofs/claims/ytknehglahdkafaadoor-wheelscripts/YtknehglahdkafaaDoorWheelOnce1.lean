/- Going from one row to the next one: what has been met, and the mask of it. -/
import Derived.Test.YtknehglahdkafaaDoorWops
namespace Go.Proofs.YtknehglahdkafaaDoor
open Go.ChangeShapes Go.WideShapes Go.ChangeAt Go.RowKit
set_option linter.unusedVariables false

/-- The first t rows, one behind the other. -/
def cat (R : Nat → List Nat) : Nat → List Nat
  | 0 => []
  | t + 1 => cat R t ++ R t
theorem cat_mem {R : Nat → List Nat} {y : Nat} : ∀ t, y ∈ cat R t ↔ ∃ j, j < t ∧ y ∈ R j := by
  intro t
  induction t with
  | zero => simp [cat]
  | succ t ih =>
    rw [cat, List.mem_append, ih]
    constructor
    · rintro (⟨j, h1, h2⟩ | h)
      · exact ⟨j, by omega, h2⟩
      · exact ⟨t, by omega, h⟩
    · rintro ⟨j, h1, h2⟩
      by_cases e : j = t
      · subst e; exact .inr h2
      · exact .inl ⟨j, by omega, h2⟩
theorem cat_len (R : Nat → List Nat) (t : Nat) : (cat R t).length = tot R t := by
  induction t with
  | zero => rfl
  | succ t ih => rw [cat, tot, List.length_append, ih]
theorem tot_mono (R : Nat → List Nat) {a b : Nat} (h : a ≤ b) : tot R a ≤ tot R b := by
  induction b with
  | zero => have : a = 0 := by omega
            subst this; exact Nat.le_refl _
  | succ b ih =>
    by_cases e : a = b + 1
    · subst e; exact Nat.le_refl _
    · have := ih (by omega); rw [tot]; omega
theorem cat_skip {R : Nat → List Nat} {t i : Nat} (h : t ≤ i) (he : ∀ j, t ≤ j → j < i → R j = []) : cat R i = cat R t := by
  induction i with
  | zero => have : t = 0 := by omega
            subst this; rfl
  | succ i ih =>
    by_cases e : t = i + 1
    · subst e; rfl
    · rw [cat, he i (by omega) (by omega), List.append_nil]
      exact ih (by omega) (fun j h1 h2 => he j h1 (by omega))
theorem cat_new {R : Nat → List Nat} {i q x : Nat} (hi : i < 64) (hap : ∀ i j x, i < 64 → j < 64 → x ∈ R i → x ∈ R j → i = j) (hnd : (R i).Nodup) (hx : (R i)[q]? = some x) : ∀ y ∈ cat R i ++ (R i).take q, y ≠ x := by
  intro y hy e
  subst e
  have hm := List.mem_of_getElem? hx
  rcases List.mem_append.1 hy with h | h
  · obtain ⟨j, h1, h2⟩ := (cat_mem i).1 h
    have := hap j i y (by omega) hi h2 hm
    omega
  · obtain ⟨p, hp, e2⟩ := List.getElem_of_mem h
    rw [List.getElem_take] at e2
    have hpq : p < q := by simp at hp; omega
    have hq := (List.getElem?_eq_some_iff.1 hx)
    have hpl : p < (R i).length := by have := hq.1; omega
    exact (List.pairwise_iff_getElem.1 hnd p q hpl hq.1 hpq) (by rw [e2, hq.2])
/-- The mask of the first t rows. -/
def MaskTo (R : Nat → List Nat) (t m : Nat) : Prop := m < 18446744073709551616 ∧ ∀ i, i < 64 → m.testBit i = (decide (i < t) && !(R i).isEmpty)
theorem maskTo_zero (R : Nat → List Nat) : MaskTo R 0 0 := ⟨by decide, fun i _ => by simp⟩
theorem or_mask (m i : Nat) (hm : m < 18446744073709551616) (hi : i < 64) : bits BinOp.or IntKind.u64 (m : Int) (IntKind.u64.wrap (2 ^ i)) = ((m ||| 2 ^ i : Nat) : Int) := by
  have h2 : 2 ^ i < 18446744073709551616 := Nat.pow_lt_pow_right (by decide) hi
  have e : IntKind.u64.wrap (2 ^ i) = ((2 ^ i : Nat) : Int) := by
    rw [wrapU, pow_int]
    generalize 2 ^ i = c at *
    omega
  rw [e, bits_or_u64_nat m (2 ^ i) hm h2]
theorem maskTo_step {R : Nat → List Nat} {t i m : Nat} (h : MaskTo R t m) (hti : t ≤ i) (hi : i < 64) (he : ∀ j, t ≤ j → j < i → R j = []) (hne : R i ≠ []) : MaskTo R (i + 1) (m ||| 2 ^ i) := by
  have h2 : 2 ^ i < 2 ^ 64 := Nat.pow_lt_pow_right (by decide) hi
  refine ⟨Nat.or_lt_two_pow (n := 64) h.1 h2, fun j hj => ?_⟩
  rw [Nat.testBit_or, h.2 j hj, Nat.testBit_two_pow]
  by_cases e : i = j
  · subst e
    cases q : R i with
    | nil => exact absurd q hne
    | cons a l => simp
  · by_cases q : j < t
    · have : j < i + 1 := by omega
      simp [q, e, this]
    · by_cases q2 : j < i
      · rw [he j (by omega) q2]; simp [e]
      · have : ¬ j < i + 1 := by omega
        simp [q, e, this]
/-- What Next has told, the first t rows having been gone through. -/
def NextAt (R : Nat → List Nat) (t : Nat) (v8 v9 : Value) : Prop :=
  (∃ i : Nat, t ≤ i ∧ i < 64 ∧ R i ≠ [] ∧ (∀ j, t ≤ j → j < i → R j = []) ∧ v8 = .int .i64 (i : Int) ∧ v9 = .bool true) ∨ ((∀ j, t ≤ j → j < 64 → R j = []) ∧ v8 = .int .i64 0 ∧ v9 = .bool false)
theorem next_at {R : Nat → List Nat} {m : Nat} (hm : ∀ i, i < 64 → m.testBit i = !(R i).isEmpty) (t : Nat) : NextAt R t (.int .i64 ((nextN [m] t).1 : Nat)) (.bool (nextN [m] t).2) := by
  rcases next_ways hm t with ⟨i, h1, h2, h3, h4, h5⟩ | ⟨h1, h2⟩
  · exact .inl ⟨i, h1, h2, h3, h4, by rw [h5], by rw [h5]⟩
  · exact .inr ⟨h1, by rw [h2]; rfl, by rw [h2]⟩
def left89 (v8 v9 : Value) : Nat := match v9 with | .bool true => 64 - (intOf v8).toNat | _ => 0
theorem next_left {R : Nat → List Nat} {i : Nat} {v8 v9 : Value} (hn : NextAt R (i + 1) v8 v9) (hi : i < 64) : left89 v8 v9 < 64 - i := by
  rcases hn with ⟨k, h0, h1, h2, h3, rfl, rfl⟩ | ⟨_, rfl, rfl⟩
  · show 64 - (intOf (.int .i64 (k : Int))).toNat < 64 - i
    simp [intOf]
    omega
  · show 0 < 64 - i
    omega
/-- Any id dropped. -/
theorem Drop_W (bP bM : Nat) (R : Nat → List Nat) (w : World) (h : Wh w bP bM R) (k : Int) (hk : I64 k) (hn : tot R 64 ≤ 1000) : Calls Tryd.prog 16 #[.pointer (some ⟨bP, 0, none⟩), .int .i64 k] w fun e w' => ∃ (r : Bool) (R' : Nat → List Nat), e = .returned (.bool r) ∧ Wh w' bP bM R' ∧ Kept (two bP bM) w w' ∧ tot R' 64 ≤ tot R 64 := by
  by_cases h0 : 0 ≤ k
  · obtain ⟨x, rfl⟩ := Int.eq_ofNat_of_zero_le h0
    obtain ⟨r, hr⟩ : ∃ r : Bool, r = true ↔ ∃ i, i < 64 ∧ x ∈ R i := by
      by_cases q : ∃ i, i < 64 ∧ x ∈ R i
      · exact ⟨true, by simp [q]⟩
      · exact ⟨false, by simp; exact fun i hi hx => q ⟨i, hi, hx⟩⟩
    exact (Drop_T bP bM R w h x hk hn r hr).mono fun e w' ⟨h1, h2, h3⟩ => ⟨r, _, h1, h2, h3, dropR_tot R x 64⟩
  · exact (Drop_neg bP bM R w h k hk (fun i hi x hx e => by omega)).mono fun e w' ⟨h1, h2⟩ => ⟨false, R, h1, h.below h2, Kept.of_below h2, Nat.le_refl _⟩
theorem Empty_W (bP bM : Nat) (R : Nat → List Nat) (w : World) (h : Wh w bP bM R) (k : Int) (hn : tot R 64 ≤ 900) : Calls Tryd.prog 17 #[.pointer (some ⟨bP, 0, none⟩), .int .i64 k] w fun e w' => ∃ (v : Value) (R' : Nat → List Nat), e = .returned v ∧ Wh w' bP bM R' ∧ Kept (two bP bM) w w' ∧ tot R' 64 ≤ tot R 64 := by
  by_cases h0 : 0 ≤ k ∧ k < 64
  · obtain ⟨i, rfl⟩ := Int.eq_ofNat_of_zero_le h0.1
    refine (Empty_T bP bM R w h i (by omega) hn).mono fun e w' ⟨v, h1, h2, h3, h4⟩ => ⟨v, _, h1, h3, h4, ?_⟩
    have := tot_upd R i [] 64 (by omega)
    simp at this
    omega
  · exact (Empty_no bP bM R w h k h0 hn).mono fun e w' ⟨v, h1, h2, h3, h4⟩ => ⟨v, R, h1, h3, h4, Nat.le_refl _⟩
theorem Add_W (bP bM : Nat) (R : Nat → List Nat) (w : World) (h : Wh w bP bM R) (a b : Int) (hn : tot R 64 ≤ 1000) : Calls Tryd.prog 15 #[.pointer (some ⟨bP, 0, none⟩), .int .i64 a, .int .i64 b] w fun e w' => ∃ (v : Value) (R' : Nat → List Nat), e = .returned v ∧ Wh w' bP bM R' ∧ Kept (two bP bM) w w' ∧ tot R' 64 ≤ tot R 64 + 1 := by
  by_cases hok : 0 ≤ a ∧ a < 64 ∧ 0 ≤ b ∧ b ≤ 1048575
  · obtain ⟨g1, g2, g3, g4⟩ := hok
    obtain ⟨i, rfl⟩ := Int.eq_ofNat_of_zero_le g1
    obtain ⟨x, rfl⟩ := Int.eq_ofNat_of_zero_le g3
    exact (Add_T bP bM R w h i x (by omega) (by omega) hn).mono fun e w' ⟨h1, h2, h3⟩ => ⟨_, _, h1, h2, h3, addR_tot R i x (by omega)⟩
  · exact (Add_no bP bM R w h a b hok).mono fun e w' ⟨h1, h2⟩ => ⟨_, R, h1, h2 ▸ h, h2 ▸ Kept.refl _ _, Nat.le_succ _⟩
end Go.Proofs.YtknehglahdkafaaDoor
