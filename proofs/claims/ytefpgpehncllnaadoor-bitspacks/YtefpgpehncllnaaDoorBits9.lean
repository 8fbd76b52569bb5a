/- What is packed, bit by bit; what Pack and Unpack tell, whatever they are given. -/
import Derived.Test.YtefpgpehncllnaaDoorBits8
namespace Go.Proofs.YtefpgpehncllnaaDoor
open Go.ChangeShapes Go.WideShapes Go.ChangeAt Go.RowKit
set_option linter.unusedVariables false

theorem pack_out (m : Nat) (ks vs : List Nat) (j i : Nat) (hi : i < 64 * m) (h : psum ks j ≤ i) : bitAt (packAt m ks vs j) i = false := by
  induction j with
  | zero =>
    unfold bitAt packAt
    rw [List.getD_eq_getElem?_getD, List.getElem?_replicate]
    split <;> simp
  | succ j ih =>
    simp only [psum] at h
    rw [packAt, setW_bit _ _ _ _ _ (by rw [packAt_len]; exact hi), if_neg (by omega)]
    exact ih (by omega)
theorem pack_in (m : Nat) (ks vs : List Nat) (q j i : Nat) (hq : q < j) (hi : i < 64 * m) (h1 : psum ks q ≤ i) (h2 : i < psum ks q + ks.getD q 0) : bitAt (packAt m ks vs j) i = (vs.getD q 0).testBit (i - psum ks q) := by
  induction j with
  | zero => omega
  | succ j ih =>
    rw [packAt, setW_bit _ _ _ _ _ (by rw [packAt_len]; exact hi)]
    by_cases e : q = j
    · subst e; rw [if_pos ⟨h1, h2⟩]
    · have := psum_mono ks (show q + 1 ≤ j by omega)
      simp only [psum] at this
      rw [if_neg (by omega)]
      exact ih (by omega)
theorem fld_pack (m : Nat) (ks vs : List Nat) (q j : Nat) (hq : q < j) (hm : psum ks j ≤ 64 * m) (hv : vs.getD q 0 < 2 ^ ks.getD q 0) : fld (packAt m ks vs j) (psum ks q) (ks.getD q 0) = vs.getD q 0 := by
  have hps := psum_mono ks (show q + 1 ≤ j by omega)
  simp only [psum] at hps
  apply Nat.eq_of_testBit_eq
  intro i
  rw [fld_bit]
  by_cases hi : i < ks.getD q 0
  · rw [pack_in m ks vs q j _ hq (by omega) (by omega) (by omega), show psum ks q + i - psum ks q = i by omega, decide_eq_true hi, Bool.true_and]
  · rw [Nat.testBit_lt_two_pow (Nat.lt_of_lt_of_le hv (Nat.pow_le_pow_right (by decide) (by omega))), decide_eq_false hi, Bool.false_and]
theorem find_field (ks : List Nat) (j i : Nat) (h : i < psum ks j) : ∃ q, q < j ∧ psum ks q ≤ i ∧ i < psum ks q + ks.getD q 0 := by
  induction j with
  | zero => simp [psum] at h
  | succ j ih =>
    by_cases h2 : i < psum ks j
    · obtain ⟨q, h3, h4⟩ := ih h2
      exact ⟨q, by omega, h4⟩
    · simp only [psum] at h
      exact ⟨j, by omega, by omega, h⟩
theorem up_pack {m : Nat} {ks vs : List Nat} {len : Nat} (hl : ks.length = len) (hv : vs.length = len) (hm : psum ks len ≤ 64 * m) (hok : VOk ks vs) : upTo len ks (packAt m ks vs len) len = vs := by
  apply List.ext_getElem (by rw [upTo_len, hv])
  intro i h1 h2
  rw [upTo_len] at h1
  have e1 : (upTo len ks (packAt m ks vs len) len).getD i 0 = (upTo len ks (packAt m ks vs len) len)[i]'(by rw [upTo_len]; exact h1) := by rw [List.getD_eq_getElem?_getD, List.getElem?_eq_getElem (by rw [upTo_len]; exact h1)]; rfl
  have e2 : vs.getD i 0 = vs[i] := by rw [List.getD_eq_getElem?_getD, List.getElem?_eq_getElem h2]; rfl
  rw [← e1, ← e2, upTo_get _ _ _ _ _ h1, if_pos h1]
  exact fld_pack m ks vs i len h1 hm (hok i (by omega))
theorem next_pack (m : Nat) (ks vs : List Nat) (len : Nat) : nextN (packAt m ks vs len) (psum ks len) = (0, false) := by
  refine next_none (q := 64 * m) (by rw [packAt_len]; exact Nat.le_refl _) ?_
  intro j h1 h2
  exact pack_out m ks vs len j h2 h1
theorem none_of_next {ns : List Nat} {f : Nat} (h : nextN ns f = (0, false)) (i : Nat) (h1 : f ≤ i) (h2 : i < 64 * ns.length) : bitAt ns i = false := by
  cases hb : bitAt ns i with
  | false => rfl
  | true =>
    exfalso
    have key : ∀ k j : Nat, j ≤ i → i < j + k → (nextFrom ns j k).2 = true := by
      intro k
      induction k with
      | zero => intro j h3 h4; omega
      | succ k ih =>
        intro j h3 h4
        simp only [nextFrom]
        by_cases e : bitAt ns j = true
        · rw [if_pos e]
        · rw [if_neg e]
          have : j ≠ i := by rintro rfl; exact e hb
          exact ih (j + 1) (by omega) (by omega)
    have := key (64 * ns.length - f) f h1 (by omega)
    unfold nextN at h
    rw [h] at this
    cases this
theorem pack_up {ks ns : List Nat} {len : Nat} (ha : AllW ns) (hl : ns.length = (psum ks len + 63) / 64) (hno : nextN ns (psum ks len) = (0, false)) : packAt ((psum ks len + 63) / 64) ks (upTo len ks ns len) len = ns := by
  refine words_ext (by rw [packAt_len, hl]) (packAt_all _ _ _ _) ha ?_
  intro i hi
  rw [packAt_len] at hi
  by_cases h : i < psum ks len
  · obtain ⟨q, h1, h2, h3⟩ := find_field ks len i h
    rw [pack_in _ ks _ q len i h1 hi h2 h3, upTo_get _ _ _ _ _ h1, if_pos h1, fld_bit, show psum ks q + (i - psum ks q) = i by omega, decide_eq_true (by omega), Bool.true_and]
  · rw [pack_out _ ks _ len i hi (by omega), none_of_next hno i (by omega) (by rw [hl]; exact hi)]
theorem up_ok {ks ns : List Nat} {len : Nat} (hl : ks.length = len) : VOk ks (upTo len ks ns len) := by
  intro i hi
  rw [upTo_get _ _ _ _ _ (by omega), if_pos (by omega)]
  exact fld_lt _ _ _
theorem v_ways (ks vs : List Nat) : VOk ks vs ∨ ∃ q, q < ks.length ∧ ¬ vs.getD q 0 < 2 ^ ks.getD q 0 ∧ ∀ j, j < q → vs.getD j 0 < 2 ^ ks.getD j 0 := by
  have key : ∀ n : Nat, (∀ j, j < n → j < ks.length → vs.getD j 0 < 2 ^ ks.getD j 0) ∨ ∃ q, q < ks.length ∧ ¬ vs.getD q 0 < 2 ^ ks.getD q 0 ∧ ∀ j, j < q → vs.getD j 0 < 2 ^ ks.getD j 0 := by
    intro n
    induction n with
    | zero => exact .inl (fun j hj => by omega)
    | succ n ih =>
      rcases ih with ih | ih
      · by_cases hn : n < ks.length
        · by_cases hb : vs.getD n 0 < 2 ^ ks.getD n 0
          · refine .inl fun j hj hl => ?_
            by_cases e : j = n
            · subst e; exact hb
            · exact ih j (by omega) hl
          · exact .inr ⟨n, hn, hb, fun j hj => ih j hj (by omega)⟩
        · exact .inl fun j hj hl => ih j (by omega) hl
      · exact .inr ih
  rcases key ks.length with h | h
  · exact .inl fun i hi => h i hi hi
  · exact .inr h

/-- A slice and whether it is, told: the words that it reads as. -/
def Tells (len : Nat) (ns : List Nat) (b : Bool) (w : World) (e : Ending) (w' : World) : Prop :=
  ∃ A cap, e = .returned (.tuple #[.slice A len cap, .bool b]) ∧ len ≤ cap ∧ Words w' A len ns ∧ Below w.heap.size w w'
theorem Tells.of {len : Nat} {ns : List Nat} {w : World} {e : Ending} {w' : World} (h : SetTold len ns w e w') : Tells len ns true w e w' := by
  obtain ⟨A, c, rfl, hf, hb⟩ := h
  exact ⟨A, c, rfl, hf.1, hf.words, hb⟩
theorem no_words (w : World) : Words w none 0 [] := ⟨rfl, (by intro x hx; cases hx), fun h => absurd h (by omega)⟩
theorem Tells.no {w : World} {e : Ending} {w' : World} (h : NoneTold w e w') : Tells 0 [] false w e w' := by
  obtain ⟨rfl, hb⟩ := h
  exact ⟨none, 0, rfl, Nat.le_refl _, no_words _, hb⟩

/-- What Pack tells: the words of what may be packed, or nothing. -/
theorem pack_tells (A A2 : Option Addr) (len cap len2 cap2 : Nat) (zs : List Int) (vs : List Nat) (hl : len ≤ 1000) (hl2 : len2 ≤ 1000) (hc : len ≤ cap) (hc2 : len2 ≤ cap2) (hz : zs.length = len) :
    (∃ ks, WOk zs ks ∧ len2 = len ∧ VOk ks vs ∧ ∀ w, Ints w A len zs → Words w A2 len2 vs → Calls Tryd.prog 20 #[.slice A len cap, .slice A2 len2 cap2] w (Tells ((psum ks len + 63) / 64) (packAt ((psum ks len + 63) / 64) ks vs len) true w)) ∨
    ((∀ ks, WOk zs ks → len2 = len → ¬ VOk ks vs) ∧ ∀ w, Ints w A len zs → Words w A2 len2 vs → Calls Tryd.prog 20 #[.slice A len cap, .slice A2 len2 cap2] w (Tells 0 [] false w)) := by
  rcases w_ways zs with ⟨ks, hk⟩ | hb
  · have uniq : ∀ ks', WOk zs ks' → ks' = ks := by
      intro ks' hk'
      apply List.ext_getElem (by rw [← hk'.2.1, hk.2.1])
      intro i h1 h2
      have h3 := (hk.2.2 i (by rw [hk.2.1]; exact h2)).1
      have h4 := (hk'.2.2 i (by rw [hk.2.1]; exact h2)).1
      rw [h3] at h4
      have e1 : ks'.getD i 0 = ks'[i] := by rw [List.getD_eq_getElem?_getD, List.getElem?_eq_getElem h1]; rfl
      have e2 : ks.getD i 0 = ks[i] := by rw [List.getD_eq_getElem?_getD, List.getElem?_eq_getElem h2]; rfl
      rw [← e1, ← e2]; omega
    by_cases hlen : len2 = len
    · subst hlen
      rcases v_ways ks vs with hv | ⟨q, hq, hq1, hq2⟩
      · exact .inl ⟨ks, hk, rfl, hv, fun w hw hv2 => (Pack_yes A A2 len2 cap cap2 zs ks vs w hc hc2 hw hv2 hk hv).mono fun e w' h => Tells.of h⟩
      · refine .inr ⟨fun ks' hk' _ hv => ?_, fun w hw hv2 => (Pack_over A A2 len2 cap cap2 q zs ks vs w hc hc2 hw hv2 hk (by rw [← hz, hk.2.1]; exact hq) hq1 hq2).mono fun e w' h => Tells.no h⟩
        rw [uniq ks' hk'] at hv
        exact hq1 (hv q hq)
    · exact .inr ⟨fun ks' hk' h _ => hlen h, fun w hw hv2 => (Pack_len A A2 len cap len2 cap2 zs ks w hc hl2 hw hk hlen).mono fun e w' h => Tells.no h⟩
  · refine .inr ⟨fun ks' hk' _ _ => ?_, fun w hw hv2 => (Pack_bad A A2 len cap len2 cap2 zs w hl hc hw hb).mono fun e w' h => Tells.no h⟩
    rcases hb with hb | ⟨i, h1, h2, _⟩
    · have := hk'.1; omega
    · have := hk'.2.2 i h1; omega
/-- What Unpack tells: the values of words that may be unpacked, or nothing. -/
theorem unpack_tells (A A2 : Option Addr) (len cap len2 cap2 : Nat) (zs : List Int) (ns : List Nat) (hl : len ≤ 1000) (hl2 : len2 ≤ 1000) (hc : len ≤ cap) (hc2 : len2 ≤ cap2) (hz : zs.length = len) (hn : ns.length = len2) :
    (∃ ks, WOk zs ks ∧ len2 = (psum ks len + 63) / 64 ∧ nextN ns (psum ks len) = (0, false) ∧ ∀ w, TabW w → Ints w A len zs → Words w A2 len2 ns → Calls Tryd.prog 22 #[.slice A len cap, .slice A2 len2 cap2] w (Tells len (upTo len ks ns len) true w)) ∨
    ((∀ ks, WOk zs ks → len2 = (psum ks len + 63) / 64 → ¬ nextN ns (psum ks len) = (0, false)) ∧ ∀ w, TabW w → Ints w A len zs → Words w A2 len2 ns → Calls Tryd.prog 22 #[.slice A len cap, .slice A2 len2 cap2] w (Tells 0 [] false w)) := by
  rcases w_ways zs with ⟨ks, hk⟩ | hb
  · have uniq : ∀ ks', WOk zs ks' → ks' = ks := by
      intro ks' hk'
      apply List.ext_getElem (by rw [← hk'.2.1, hk.2.1])
      intro i h1 h2
      have h3 := (hk.2.2 i (by rw [hk.2.1]; exact h2)).1
      have h4 := (hk'.2.2 i (by rw [hk.2.1]; exact h2)).1
      rw [h3] at h4
      have e1 : ks'.getD i 0 = ks'[i] := by rw [List.getD_eq_getElem?_getD, List.getElem?_eq_getElem h1]; rfl
      have e2 : ks.getD i 0 = ks[i] := by rw [List.getD_eq_getElem?_getD, List.getElem?_eq_getElem h2]; rfl
      rw [← e1, ← e2]; omega
    by_cases hlen : len2 = (psum ks len + 63) / 64
    · cases hx : nextN ns (psum ks len) with
      | mk x b =>
        cases b with
        | false =>
          have hx0 : x = 0 := by
            have hpl : psum ks len ≤ 64 * ns.length := by rw [hn]; omega
            have key : ∀ k i : Nat, (nextFrom ns i k).2 = false → (nextFrom ns i k).1 = 0 := by
              intro k
              induction k with
              | zero => intro i _; rfl
              | succ k ih =>
                intro i h
                simp only [nextFrom] at h ⊢
                by_cases e : bitAt ns i = true
                · rw [if_pos e] at h; cases h
                · rw [if_neg e] at h ⊢; exact ih _ h
            have := key (64 * ns.length - psum ks len) (psum ks len) (by unfold nextN at hx; rw [hx])
            unfold nextN at hx
            rw [hx] at this
            exact this
          subst hx0
          exact .inl ⟨ks, hk, hlen, hx, fun w ht hw hv2 => (Unpack_yes A A2 len cap len2 cap2 zs ks ns w hc hc2 hw hv2 hk ht hlen hx).mono fun e w' h => Tells.of h⟩
        | true =>
          refine .inr ⟨fun ks' hk' _ h => ?_, fun w ht hw hv2 => (Unpack_more A A2 len cap len2 cap2 x zs ks ns w hc hc2 hw hv2 hk ht hlen hx).mono fun e w' h => Tells.no h⟩
          rw [uniq ks' hk', hx] at h
          cases h
    · refine .inr ⟨fun ks' hk' h _ => ?_, fun w ht hw hv2 => (Unpack_len A A2 len cap len2 cap2 zs ks w hc hl2 hw hk hlen).mono fun e w' h => Tells.no h⟩
      rw [uniq ks' hk'] at h
      exact hlen h
  · refine .inr ⟨fun ks' hk' _ _ => ?_, fun w ht hw hv2 => (Unpack_bad A A2 len cap len2 cap2 zs w hl hc hw hb).mono fun e w' h => Tells.no h⟩
    rcases hb with hb | ⟨i, h1, h2, _⟩
    · have := hk'.1; omega
    · have := hk'.2.2 i h1; omega
end Go.Proofs.YtefpgpehncllnaaDoor
