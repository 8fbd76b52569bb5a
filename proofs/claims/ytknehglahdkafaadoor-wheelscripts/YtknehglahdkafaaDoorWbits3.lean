/- The contracts of math/bits.TrailingZeros64, OnesCount64, bits.Next and Count. -/
import Derived.Test.YtknehglahdkafaaDoorBits2
import Derived.Test.YtknehglahdkafaaDoorBitsPop
namespace Go.Proofs.YtknehglahdkafaaDoor
open Go.ChangeShapes Go.WideShapes Go.ChangeAt Go.RowKit
set_option linter.unusedVariables false

/-- The table by which trailing zeros are told, in memory. -/
def TabW (w : World) : Prop := 0 < w.heap.size ∧ ∀ j, j < 64 → w.cell? ⟨0, j, none⟩ = some (.int .u8 ((Lib.deBruijn64tab.getD j 0 : Nat) : Int))
theorem TabW.below {w w' : World} (h : TabW w) (hb : Below w.heap.size w w') : TabW w' :=
  ⟨Nat.lt_of_lt_of_le h.1 hb.size, fun j hj => (hb.cell (p := ⟨0, j, none⟩) h.1).trans (h.2 j hj)⟩

theorem tz_key (x a : Nat) (hx : x < 18446744073709551616) (hx0 : x ≠ 0) (hlow : x &&& (18446744073709551616 - x) = a) :
    IntKind.u64.wrap (bits BinOp.and IntKind.u64 (x : Int) (IntKind.u64.wrap (-(x : Int))) * 285870213051353865) / 288230376151711744 = ((a * 285870213051353865 % 18446744073709551616 / 288230376151711744 : Nat) : Int) := by
  have e1 : IntKind.u64.wrap (-(x : Int)) = ((18446744073709551616 - x : Nat) : Int) := by rw [wrapU]; omega
  rw [e1, bits_and_u64_nat x _ hx (by omega), hlow, wrapU]
  omega
theorem tz_core (x k idx : Nat) (w : World) (hx0 : ((x : Int) == 0) = false)
    (key : IntKind.u64.wrap (bits BinOp.and IntKind.u64 (x : Int) (IntKind.u64.wrap (-(x : Int))) * 285870213051353865) / 288230376151711744 = (idx : Int))
    (hi : idx < 64) (hk : k < 64) (hcell : w.cell? ⟨0, idx, none⟩ = some (.int .u8 k)) :
    Calls Tryd.prog 33 #[.int .u64 x] w fun e w' => e = .returned (.int .i64 k) ∧ w = w' := by
  go_enter Tryd.func33, Tryd.ntmps33
  go_wp2_with (simp only [key])
  go_ret
  exact ⟨rfl, rfl⟩
theorem TZ_any (x : Nat) (w : World) (h0 : x ≠ 0) (h : x < 18446744073709551616) (ht : TabW w) :
    Calls Tryd.prog 33 #[.int .u64 x] w fun e w' => e = .returned (.int .i64 (Lib.ctz 64 x : Nat)) ∧ w = w' := by
  obtain ⟨hlow, hk⟩ := Lib.lowest_bit 64 x h0 h
  obtain ⟨hi, htab⟩ := Lib.deBruijn64_at _ hk
  have hcell := ht.2 _ hi
  rw [htab] at hcell
  exact tz_core x _ _ w (by simp; omega) (tz_key x _ h h0 hlow) hi hk hcell

theorem rest_zero (ns : List Nat) (i s j : Nat) (h : ns.getD i 0 >>> s = 0) (h1 : 64 * i + s ≤ j) (h2 : j < 64 * (i + 1)) : bitAt ns j = false := by
  unfold bitAt
  rw [show j / 64 = i by omega]
  have : (ns.getD i 0 >>> s).testBit (j % 64 - s) = false := by rw [h]; simp
  rw [Nat.testBit_shiftRight, show s + (j % 64 - s) = j % 64 by omega] at this
  exact this
theorem rest_hit (ns : List Nat) (i s : Nat) (hs : s < 64) (ha : AllW ns) (h : ns.getD i 0 >>> s ≠ 0) :
    Lib.ctz 64 (ns.getD i 0 >>> s) + s < 64 ∧ bitAt ns (64 * i + s + Lib.ctz 64 (ns.getD i 0 >>> s)) = true ∧ ∀ j, 64 * i + s ≤ j → j < 64 * i + s + Lib.ctz 64 (ns.getD i 0 >>> s) → bitAt ns j = false := by
  obtain ⟨h1, h2, h3⟩ := ctz_bits _ h (shr_lt s (ha.at_ i))
  generalize Lib.ctz 64 (ns.getD i 0 >>> s) = t at *
  rw [Nat.testBit_shiftRight] at h2
  have hst : s + t < 64 := by
    rcases Nat.lt_or_ge (s + t) 64 with hh | hh
    · exact hh
    · rw [Nat.testBit_lt_two_pow (Nat.lt_of_lt_of_le (ha.at_ i) (Nat.le_trans (Nat.le_refl (2 ^ 64)) (Nat.pow_le_pow_right (by decide) hh)))] at h2
      cases h2
  refine ⟨by omega, ?_, fun j hj1 hj2 => ?_⟩
  · unfold bitAt
    rw [show (64 * i + s + t) / 64 = i by omega, show (64 * i + s + t) % 64 = s + t by omega]; exact h2
  · unfold bitAt
    rw [show j / 64 = i by omega]
    have := h3 (j - (64 * i + s)) (by omega)
    rw [Nat.testBit_shiftRight, show s + (j - (64 * i + s)) = j % 64 by omega] at this
    exact this

/-- Nothing from f on, and ahead of place q, is 1. -/
def NoneTill (ns : List Nat) (f q : Nat) : Prop := ∀ j, f ≤ j → j < q → bitAt ns j = false
theorem next_hit {ns : List Nat} {f i s : Nat} (hi : i < ns.length) (hs : s < 64) (ha : AllW ns) (hf : f ≤ 64 * i + s) (hn : NoneTill ns f (64 * i + s)) (h : ns.getD i 0 >>> s ≠ 0) :
    nextN ns f = (64 * i + s + Lib.ctz 64 (ns.getD i 0 >>> s), true) ∧ Lib.ctz 64 (ns.getD i 0 >>> s) < 64 := by
  obtain ⟨h1, h2, h3⟩ := rest_hit ns i s hs ha h
  refine ⟨nextFrom_yes ns _ _ f (by omega) (by omega) h2 (fun j hj1 hj2 => ?_), by omega⟩
  by_cases hj : j < 64 * i + s
  · exact hn j hj1 hj
  · exact h3 j (by omega) hj2
theorem next_none {ns : List Nat} {f q : Nat} (hq : 64 * ns.length ≤ q) (hn : NoneTill ns f q) : nextN ns f = (0, false) :=
  nextFrom_no ns _ f (fun j h1 h2 => hn j h1 (by omega))

theorem fst_eq {a : Nat × Bool} {t : Nat} {b : Bool} (h : a = (t, b)) {u : Int} (hu : u = (t : Int)) : Ending.returned (.tuple #[.int .i64 u, .bool b]) = .returned (.tuple #[.int .i64 (a.1 : Nat), .bool a.2]) := by rw [h, hu]

theorem Next_nat (A : Option Addr) (len cap : Nat) (ns : List Nat) (f : Nat) (w : World) (hl : len ≤ 1000) (hc : len ≤ cap) (hw : Words w A len ns) (ht : TabW w) (hp2 : f < 9223372036854775808) :
    Calls Tryd.prog 30 #[.slice A len cap, .int .i64 f] w fun e w' => e = .returned (.tuple #[.int .i64 ((nextN ns f).1 : Nat), .bool (nextN ns f).2]) ∧ w = w' := by
  have HW := Lib.hid hw
  have HT := Lib.hid ht
  clear hw ht
  go_enter Tryd.func30, Tryd.ntmps30
  go_wp2
  go_loop [6, 7] (fun sv iv => ∃ i s : Nat, iv = .int .i64 i ∧ sv = .int .i64 s ∧ s < 64 ∧ f ≤ 64 * i + s ∧ i ≤ f + len ∧ NoneTill ns f (64 * i + s)) (fun _ i => len - (intOf i).toNat)
  case atStart => exact ⟨f / 64, f % 64, by simp, by simp, by omega, by omega, by omega, fun j h1 h2 => by omega⟩
  case round =>
    obtain ⟨i, s, rfl, rfl, hs, hf, hi, hn⟩ := hrel
    have HN := Lib.hid hn
    clear hn
    by_cases hlt : i < len
    · obtain ⟨h1, ha, h3⟩ := HW.out
      obtain ⟨b, off, rfl, hbl, hcell⟩ := h3 (by omega)
      have c0 := hcell i hlt
      by_cases hz : ns.getD i 0 >>> s = 0
      · have E : Hid (NoneTill ns f (64 * (i + 1) + 0)) := by
          intro j hj1 hj2
          by_cases hj : j < 64 * i + s
          · exact HN.out j hj1 hj
          · exact rest_zero ns i s j hz (by omega) (by omega)
        generalize ns.getD i 0 = a at *
        have k1 : (((a : Int) / 2 ^ s) != 0) = false := by rw [shr_nat, hz]; rfl
        clear hcell h3 ha h1 hz
        go_wp2
        go_round
        case rel => exact ⟨i + 1, 0, by go_num, by simp, by omega, by omega, by omega, E.out⟩
        case measure => simp [intOf]; omega
      · obtain ⟨E, hct⟩ := next_hit (f := f) (by omega) hs ha hf HN.out hz
        have EE := Lib.hid E
        have hrl := shr_lt s (ha.at_ i)
        have k1 : (((ns.getD i 0 : Nat) : Int) / 2 ^ s != 0) = true := by rw [shr_nat]; exact bne_iff_ne.2 (fun h => hz (by exact_mod_cast h))
        have k2 := shr_nat (ns.getD i 0) s
        have HZ := Lib.hid hz
        have HRL := Lib.hid hrl
        rw [k2] at k1
        generalize ns.getD i 0 >>> s = r at *
        generalize ns.getD i 0 = a at *
        clear hcell h3 ha h1 hz E hrl
        go_wp2_with (first | (go_at_call 33; refine (TZ_any r _ HZ.out HRL.out HT.out).mono ?_; rintro e w' ⟨rfl, rfl⟩))
        go_ret2
        exact ⟨fst_eq EE.out (by omega), rfl⟩
    · have E := Lib.hid (next_none (f := f) (ns := ns) (q := 64 * i + s) (by rw [HW.out.1]; omega) HN.out)
      go_wp2
      go_ret2
      exact ⟨fst_eq E.out rfl, rfl⟩
theorem Next_neg (A : Option Addr) (len cap : Nat) (ns : List Nat) (p : Int) (w : World) (hl : len ≤ 1000) (hc : len ≤ cap) (hw : Words w A len ns) (ht : TabW w) (hp : p < 0) :
    Calls Tryd.prog 30 #[.slice A len cap, .int .i64 p] w fun e w' => e = .returned (.tuple #[.int .i64 ((nextN ns 0).1 : Nat), .bool (nextN ns 0).2]) ∧ w = w' := by
  have HW := Lib.hid hw
  have HT := Lib.hid ht
  clear hw ht
  go_enter Tryd.func30, Tryd.ntmps30
  go_wp2
  go_loop [6, 7] (fun sv iv => ∃ i s : Nat, iv = .int .i64 i ∧ sv = .int .i64 s ∧ s < 64 ∧ 0 ≤ 64 * i + s ∧ i ≤ 0 + len ∧ NoneTill ns 0 (64 * i + s)) (fun _ i => len - (intOf i).toNat)
  case atStart => exact ⟨0, 0, by simp, by simp, by omega, by omega, by omega, fun j h1 h2 => by omega⟩
  case round =>
    obtain ⟨i, s, rfl, rfl, hs, hf, hi, hn⟩ := hrel
    have HN := Lib.hid hn
    clear hn
    by_cases hlt : i < len
    · obtain ⟨h1, ha, h3⟩ := HW.out
      obtain ⟨b, off, rfl, hbl, hcell⟩ := h3 (by omega)
      have c0 := hcell i hlt
      by_cases hz : ns.getD i 0 >>> s = 0
      · have E : Hid (NoneTill ns 0 (64 * (i + 1) + 0)) := by
          intro j hj1 hj2
          by_cases hj : j < 64 * i + s
          · exact HN.out j hj1 hj
          · exact rest_zero ns i s j hz (by omega) (by omega)
        generalize ns.getD i 0 = a at *
        have k1 : (((a : Int) / 2 ^ s) != 0) = false := by rw [shr_nat, hz]; rfl
        clear hcell h3 ha h1 hz
        go_wp2
        go_round
        case rel => exact ⟨i + 1, 0, by go_num, by simp, by omega, by omega, by omega, E.out⟩
        case measure => simp [intOf]; omega
      · obtain ⟨E, hct⟩ := next_hit (f := 0) (by omega) hs ha hf HN.out hz
        have EE := Lib.hid E
        have hrl := shr_lt s (ha.at_ i)
        have k1 : (((ns.getD i 0 : Nat) : Int) / 2 ^ s != 0) = true := by rw [shr_nat]; exact bne_iff_ne.2 (fun h => hz (by exact_mod_cast h))
        have k2 := shr_nat (ns.getD i 0) s
        have HZ := Lib.hid hz
        have HRL := Lib.hid hrl
        rw [k2] at k1
        generalize ns.getD i 0 >>> s = r at *
        generalize ns.getD i 0 = a at *
        clear hcell h3 ha h1 hz E hrl
        go_wp2_with (first | (go_at_call 33; refine (TZ_any r _ HZ.out HRL.out HT.out).mono ?_; rintro e w' ⟨rfl, rfl⟩))
        go_ret2
        exact ⟨fst_eq EE.out (by omega), rfl⟩
    · have E := Lib.hid (next_none (f := 0) (ns := ns) (q := 64 * i + s) (by rw [HW.out.1]; omega) HN.out)
      go_wp2
      go_ret2
      exact ⟨fst_eq E.out rfl, rfl⟩

theorem Next_any (A : Option Addr) (len cap : Nat) (ns : List Nat) (p : Int) (w : World) (hl : len ≤ 1000) (hc : len ≤ cap) (hw : Words w A len ns) (ht : TabW w) (hp : p < 9223372036854775808) :
    Calls Tryd.prog 30 #[.slice A len cap, .int .i64 p] w fun e w' => e = .returned (.tuple #[.int .i64 ((nextN ns p.toNat).1 : Nat), .bool (nextN ns p.toNat).2]) ∧ w = w' := by
  by_cases h : p < 0
  · rw [show p.toNat = 0 by omega]; exact Next_neg A len cap ns p w hl hc hw ht h
  · obtain ⟨f, rfl⟩ := Int.eq_ofNat_of_zero_le (show 0 ≤ p by omega)
    exact Next_nat A len cap ns f w hl hc hw ht (by omega)
end Go.Proofs.YtknehglahdkafaaDoor
