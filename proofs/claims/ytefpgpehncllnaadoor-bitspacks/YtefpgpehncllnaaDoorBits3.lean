/- The contracts of math/bits.TrailingZeros64, OnesCount64, bits.Next and Count. -/
import Derived.Test.YtefpgpehncllnaaDoorBits2
import Derived.Test.YtefpgpehncllnaaDoorBitsPop
namespace Go.Proofs.YtefpgpehncllnaaDoor
open Go.ChangeShapes Go.WideShapes Go.ChangeAt Go.RowKit
set_option linter.unusedVariables false

/-- The table by which trailing zeros are told, in memory. -/
def TabW (w : World) : Prop := 0 < w.heap.size ∧ ∀ j, j < 64 → w.cell? ⟨0, j, none⟩ = some (.int .u8 ((Lib.deBruijn64tab.getD j 0 : Nat) : Int))
theorem TabW.below {w w' : World} (h : TabW w) (hb : Below w.heap.size w w') : TabW w' :=
  ⟨Nat.lt_of_lt_of_le h.1 hb.size, fun j hj => (hb.cell (p := ⟨0, j, none⟩) h.1).trans (h.2 j hj)⟩

theorem tz_key (x a : Nat) (hx : x < 18446744073709551616) (hx0 : x ≠ 0) (hlow : x &&& (18446744073709551616 - x) = a) :
    IntKind.u64.wrap (bits BinOp.and IntKind.u64 (x : Int) (IntKind.u64.wrap (-(x : Int))) * 285870213051353865) / 288230376151711744 = ((a * 285870213051353865 % 18446744073709551616 / 288230376151711744 : Nat) : Int) := by
  have e1 : IntKind.u64.wrap (-(x : Int)) = ((18446744073709551616 - x : Nat) : Int) := by rw [wrapU]; omega
  rw [e1, bits_and_u64_nat x _ hx (by omega), hlow, wrapU]
  omega
theorem tz_core (x k idx : Nat) (w : World) (hx0 : ((x : Int) == 0) = false)
    (key : IntKind.u64.wrap (bits BinOp.and IntKind.u64 (x : Int) (IntKind.u64.wrap (-(x : Int))) * 285870213051353865) / 288230376151711744 = (idx : Int))
    (hi : idx < 64) (hk : k < 64) (hcell : w.cell? ⟨0, idx, none⟩ = some (.int .u8 k)) :
    Calls Tryd.prog 30 #[.int .u64 x] w fun e w' => e = .returned (.int .i64 k) ∧ w = w' := by
  go_enter Tryd.func30, Tryd.ntmps30
  go_wp2_with (simp only [key])
  go_ret
  exact ⟨rfl, rfl⟩
theorem TZ_any (x : Nat) (w : World) (h0 : x ≠ 0) (h : x < 18446744073709551616) (ht : TabW w) :
    Calls Tryd.prog 30 #[.int .u64 x] w fun e w' => e = .returned (.int .i64 (Lib.ctz 64 x : Nat)) ∧ w = w' := by
  obtain ⟨hlow, hk⟩ := Lib.lowest_bit 64 x h0 h
  obtain ⟨hi, htab⟩ := Lib.deBruijn64_at _ hk
  have hcell := ht.2 _ hi
  rw [htab] at hcell
  exact tz_core x _ _ w (by simp; omega) (tz_key x _ h h0 hlow) hi hk hcell

theorem and_nat (a m : Nat) (ha : a < 18446744073709551616) (hm : m < 18446744073709551616) : bits BinOp.and IntKind.u64 (a : Int) (m : Int) = ((a &&& m : Nat) : Int) := bits_and_u64_nat a m ha hm
theorem and_shr (a s m : Nat) (ha : a < 18446744073709551616) (hm : m < 18446744073709551616) : bits BinOp.and IntKind.u64 ((a : Int) / (2 ^ s : Nat)) (m : Int) = ((a >>> s &&& m : Nat) : Int) := by
  rw [Nat.shiftRight_eq_div_pow, ← bits_and_u64_nat _ m (Nat.lt_of_le_of_lt (Nat.div_le_self _ _) ha) hm]
  rw [Int.natCast_ediv]
theorem wrap_nat (a : Nat) (h : a < 18446744073709551616) : IntKind.u64.wrap (a : Int) = a := by rw [wrapU]; omega
theorem div_nat (a s : Nat) : (a : Int) / (2 ^ s : Nat) = ((a >>> s : Nat) : Int) := by rw [Nat.shiftRight_eq_div_pow, Int.natCast_ediv]

theorem pop_core (x x1 x2 x3 d e f r : Nat) (w : World) (hr : r ≤ 64)
    (k1 : IntKind.u64.wrap (bits BinOp.and IntKind.u64 ((x : Int) / 2) 6148914691236517205 + bits BinOp.and IntKind.u64 (x : Int) 6148914691236517205) = (x1 : Int))
    (k2 : IntKind.u64.wrap (bits BinOp.and IntKind.u64 ((x1 : Int) / 4) 3689348814741910323 + bits BinOp.and IntKind.u64 (x1 : Int) 3689348814741910323) = (x2 : Int))
    (k3 : bits BinOp.and IntKind.u64 (IntKind.u64.wrap ((x2 : Int) / 16 + (x2 : Int))) 1085102592571150095 = (x3 : Int))
    (k4 : IntKind.u64.wrap ((x3 : Int) + (x3 : Int) / 256) = (d : Int)) (k5 : IntKind.u64.wrap ((d : Int) + (d : Int) / 65536) = (e : Int)) (k6 : IntKind.u64.wrap ((e : Int) + (e : Int) / 4294967296) = (f : Int))
    (k7 : bits BinOp.and IntKind.i64 (wrap64 (f : Int)) 127 = (r : Int)) :
    Calls Tryd.prog 31 #[.int .u64 x] w fun e w' => e = .returned (.int .i64 r) ∧ w = w' := by
  go_enter Tryd.func31, Tryd.ntmps31
  go_wp2
  go_ret
  exact ⟨rfl, rfl⟩

theorem and127 (f : Nat) (h : f < 18446744073709551616) : bits BinOp.and IntKind.i64 (wrap64 (f : Int)) 127 = ((f % 128 : Nat) : Int) := by
  have h1 : (BitVec.ofInt 64 (wrap64 (f : Int))).toNat = f := by
    rw [BitVec.toNat_ofInt]; unfold wrap64; omega
  have h2 : (BitVec.ofInt 64 127).toNat = 127 := by decide
  show IntKind.i64.wrap ((BitVec.ofInt 64 (wrap64 (f : Int)) &&& BitVec.ofInt 64 127).toNat : Int) = _
  rw [BitVec.toNat_and, h1, h2, show (127 : Nat) = 2 ^ 7 - 1 from rfl, Nat.and_two_pow_sub_one_eq_mod]
  have : f % 2 ^ 7 < 128 := Nat.mod_lt _ (by decide)
  simp [IntKind.wrap, IntKind.signed, IntKind.bits]
  omega

theorem Pop_any (x : Nat) (w : World) (h : x < 18446744073709551616) :
    Calls Tryd.prog 31 #[.int .u64 x] w fun e w' => e = .returned (.int .i64 (popc 64 x : Nat)) ∧ w = w' := by
  obtain ⟨q0, q1, q2, q3, q4, q5, q6⟩ := ones64_eq x h
  obtain ⟨q7, q8⟩ := q6 _ rfl
  have q9 := q8 _ rfl
  rw [← q0] at q1 ⊢
  have a1 : bits BinOp.and IntKind.u64 ((x : Int) / 2) 6148914691236517205 = ((x >>> 1 &&& 6148914691236517205 : Nat) : Int) := and_shr x 1 6148914691236517205 h (by decide)
  have a2 : bits BinOp.and IntKind.u64 (x : Int) 6148914691236517205 = ((x &&& 6148914691236517205 : Nat) : Int) := and_nat x 6148914691236517205 h (by decide)
  have a3 : bits BinOp.and IntKind.u64 ((sw1 x : Int) / 4) 3689348814741910323 = ((sw1 x >>> 2 &&& 3689348814741910323 : Nat) : Int) := and_shr (sw1 x) 2 3689348814741910323 q2 (by decide)
  have a4 : bits BinOp.and IntKind.u64 (sw1 x : Int) 3689348814741910323 = ((sw1 x &&& 3689348814741910323 : Nat) : Int) := and_nat (sw1 x) 3689348814741910323 q2 (by decide)
  refine pop_core x (sw1 x) (sw2 (sw1 x)) (sw3 (sw2 (sw1 x))) _ (ones64 x) w q1 ?_ ?_ ?_ (d := sw3 (sw2 (sw1 x)) + sw3 (sw2 (sw1 x)) >>> 8)
    (e := sw3 (sw2 (sw1 x)) + sw3 (sw2 (sw1 x)) >>> 8 + (sw3 (sw2 (sw1 x)) + sw3 (sw2 (sw1 x)) >>> 8) >>> 16) ?_ ?_ ?_ (and127 _ q9)
  · rw [a1, a2, ← Int.natCast_add]; exact wrap_nat (sw1 x) q2
  · rw [a3, a4, ← Int.natCast_add]; exact wrap_nat (sw2 (sw1 x)) q3
  · rw [show ((sw2 (sw1 x) : Int) / 16) = (sw2 (sw1 x) : Int) / (2 ^ 4 : Nat) from rfl, div_nat, ← Int.natCast_add, wrap_nat _ q4]
    exact and_nat _ 1085102592571150095 q4 (by decide)
  · rw [show ((sw3 (sw2 (sw1 x)) : Int) / 256) = (sw3 (sw2 (sw1 x)) : Int) / (2 ^ 8 : Nat) from rfl, div_nat, ← Int.natCast_add, wrap_nat _ q5]
  · generalize sw3 (sw2 (sw1 x)) + sw3 (sw2 (sw1 x)) >>> 8 = d at *
    rw [show ((d : Int) / 65536) = (d : Int) / (2 ^ 16 : Nat) from rfl, div_nat, ← Int.natCast_add, wrap_nat _ q7]
  · generalize sw3 (sw2 (sw1 x)) + sw3 (sw2 (sw1 x)) >>> 8 + (sw3 (sw2 (sw1 x)) + sw3 (sw2 (sw1 x)) >>> 8) >>> 16 = e at *
    rw [show ((e : Int) / 4294967296) = (e : Int) / (2 ^ 32 : Nat) from rfl, div_nat, ← Int.natCast_add, wrap_nat _ q9]

theorem cnt_step (ns : List Nat) (j : Nat) : cnt ns (64 * j) + popc 64 (ns.getD j 0) = cnt ns (64 * (j + 1)) := by
  rw [show 64 * (j + 1) = 64 * j + 64 by omega, cnt_word ns j 64 (by omega)]
theorem Count_any (A : Option Addr) (len cap : Nat) (ns : List Nat) (w : World) (hl : len ≤ 1000) (hc : len ≤ cap) (hw : Words w A len ns) :
    Calls Tryd.prog 18 #[.slice A len cap] w fun e w' => e = .returned (.int .i64 (cnt ns (64 * len) : Nat)) ∧ w = w' := by
  have HW := Lib.hid hw
  clear hw
  go_enter Tryd.func18, Tryd.ntmps18
  go_wp2
  go_loop [3, 8] (fun n i => ∃ j : Nat, j ≤ len ∧ i = .int .i64 j ∧ n = .int .i64 (cnt ns (64 * j) : Nat)) (fun _ i => len - (intOf i).toNat)
  case atStart => exact ⟨0, Nat.zero_le _, rfl, rfl⟩
  case round =>
    obtain ⟨j, hj, rfl, rfl⟩ := hrel
    have hb := cnt_le ns (64 * j)
    by_cases hlt : j < len
    · obtain ⟨h1, ha, h3⟩ := HW.out
      obtain ⟨b, off, rfl, hbl, hcell⟩ := h3 (by omega)
      have c0 := hcell j hlt
      have hal := ha.at_ j
      have hb2 := (ones64_eq _ hal).2.1
      have E := Lib.hid (cnt_step ns j)
      generalize ns.getD j 0 = a at *
      have HAL := Lib.hid hal
      clear hcell h3 ha h1 hal
      go_wp2_with (first | (go_at_call 31; refine (Pop_any a _ HAL.out).mono ?_; rintro e w' ⟨rfl, rfl⟩))
      go_round
      case rel => exact ⟨j + 1, by omega, by go_num, val_int (by rw [← E.out]; omega)⟩
      case measure => simp [intOf]; omega
    · go_wp2
      go_ret
      exact ⟨ret_int (by rw [show j = len by omega]), rfl⟩

theorem rest_zero (ns : List Nat) (i s j : Nat) (h : ns.getD i 0 >>> s = 0) (h1 : 64 * i + s ≤ j) (h2 : j < 64 * (i + 1)) : bitAt ns j = false := by
  unfold bitAt
  rw [show j / 64 = i by omega]
  have : (ns.getD i 0 >>> s).testBit (j % 64 - s) = false := by rw [h]; simp
  rw [Nat.testBit_shiftRight, show s + (j % 64 - s) = j % 64 by omega] at this
  exact this
theorem rest_hit (ns : List Nat) (i s : Nat) (hs : s < 64) (ha : AllW ns) (h : ns.getD i 0 >>> s ≠ 0) :
    Lib.ctz 64 (ns.getD i 0 >>> s) + s < 64 ∧ bitAt ns (64 * i + s + Lib.ctz 64 (ns.getD i 0 >>> s)) = true ∧ ∀ j, 64 * i + s ≤ j → j < 64 * i + s + Lib.ctz 64 (ns.getD i 0 >>> s) → bitAt ns j = false := by
  obtain ⟨h1, h2, h3⟩ := ctz_bits _ h (shr_lt s (ha.at_ i))
  generalize Lib.ctz 64 (ns.getD i 0 >>> s) = t at *
  rw [Nat.testBit_shiftRight] at h2
  have hst : s + t < 64 := by
    rcases Nat.lt_or_ge (s + t) 64 with hh | hh
    · exact hh
    · rw [Nat.testBit_lt_two_pow (Nat.lt_of_lt_of_le (ha.at_ i) (Nat.le_trans (Nat.le_refl (2 ^ 64)) (Nat.pow_le_pow_right (by decide) hh)))] at h2
      cases h2
  refine ⟨by omega, ?_, fun j hj1 hj2 => ?_⟩
  · unfold bitAt
    rw [show (64 * i + s + t) / 64 = i by omega, show (64 * i + s + t) % 64 = s + t by omega]; exact h2
  · unfold bitAt
    rw [show j / 64 = i by omega]
    have := h3 (j - (64 * i + s)) (by omega)
    rw [Nat.testBit_shiftRight, show s + (j - (64 * i + s)) = j % 64 by omega] at this
    exact this

/-- Nothing from f on, and ahead of place q, is 1. -/
def NoneTill (ns : List Nat) (f q : Nat) : Prop := ∀ j, f ≤ j → j < q → bitAt ns j = false
theorem next_hit {ns : List Nat} {f i s : Nat} (hi : i < ns.length) (hs : s < 64) (ha : AllW ns) (hf : f ≤ 64 * i + s) (hn : NoneTill ns f (64 * i + s)) (h : ns.getD i 0 >>> s ≠ 0) :
    nextN ns f = (64 * i + s + Lib.ctz 64 (ns.getD i 0 >>> s), true) ∧ Lib.ctz 64 (ns.getD i 0 >>> s) < 64 := by
  obtain ⟨h1, h2, h3⟩ := rest_hit ns i s hs ha h
  refine ⟨nextFrom_yes ns _ _ f (by omega) (by omega) h2 (fun j hj1 hj2 => ?_), by omega⟩
  by_cases hj : j < 64 * i + s
  · exact hn j hj1 hj
  · exact h3 j (by omega) hj2
theorem next_none {ns : List Nat} {f q : Nat} (hq : 64 * ns.length ≤ q) (hn : NoneTill ns f q) : nextN ns f = (0, false) :=
  nextFrom_no ns _ f (fun j h1 h2 => hn j h1 (by omega))

theorem fst_eq {a : Nat × Bool} {t : Nat} {b : Bool} (h : a = (t, b)) {u : Int} (hu : u = (t : Int)) : Ending.returned (.tuple #[.int .i64 u, .bool b]) = .returned (.tuple #[.int .i64 (a.1 : Nat), .bool a.2]) := by rw [h, hu]

theorem Next_nat (A : Option Addr) (len cap : Nat) (ns : List Nat) (f : Nat) (w : World) (hl : len ≤ 1000) (hc : len ≤ cap) (hw : Words w A len ns) (ht : TabW w) (hp2 : f < 9223372036854775808) :
    Calls Tryd.prog 16 #[.slice A len cap, .int .i64 f] w fun e w' => e = .returned (.tuple #[.int .i64 ((nextN ns f).1 : Nat), .bool (nextN ns f).2]) ∧ w = w' := by
  have HW := Lib.hid hw
  have HT := Lib.hid ht
  clear hw ht
  go_enter Tryd.func16, Tryd.ntmps16
  go_wp2
  go_loop [6, 7] (fun sv iv => ∃ i s : Nat, iv = .int .i64 i ∧ sv = .int .i64 s ∧ s < 64 ∧ f ≤ 64 * i + s ∧ i ≤ f + len ∧ NoneTill ns f (64 * i + s)) (fun _ i => len - (intOf i).toNat)
  case atStart => exact ⟨f / 64, f % 64, by simp, by simp, by omega, by omega, by omega, fun j h1 h2 => by omega⟩
  case round =>
    obtain ⟨i, s, rfl, rfl, hs, hf, hi, hn⟩ := hrel
    have HN := Lib.hid hn
    clear hn
    by_cases hlt : i < len
    · obtain ⟨h1, ha, h3⟩ := HW.out
      obtain ⟨b, off, rfl, hbl, hcell⟩ := h3 (by omega)
      have c0 := hcell i hlt
      by_cases hz : ns.getD i 0 >>> s = 0
      · have E : Hid (NoneTill ns f (64 * (i + 1) + 0)) := by
          intro j hj1 hj2
          by_cases hj : j < 64 * i + s
          · exact HN.out j hj1 hj
          · exact rest_zero ns i s j hz (by omega) (by omega)
        generalize ns.getD i 0 = a at *
        have k1 : (((a : Int) / 2 ^ s) != 0) = false := by rw [shr_nat, hz]; rfl
        clear hcell h3 ha h1 hz
        go_wp2
        go_round
        case rel => exact ⟨i + 1, 0, by go_num, by simp, by omega, by omega, by omega, E.out⟩
        case measure => simp [intOf]; omega
      · obtain ⟨E, hct⟩ := next_hit (f := f) (by omega) hs ha hf HN.out hz
        have EE := Lib.hid E
        have hrl := shr_lt s (ha.at_ i)
        have k1 : (((ns.getD i 0 : Nat) : Int) / 2 ^ s != 0) = true := by rw [shr_nat]; exact bne_iff_ne.2 (fun h => hz (by exact_mod_cast h))
        have k2 := shr_nat (ns.getD i 0) s
        have HZ := Lib.hid hz
        have HRL := Lib.hid hrl
        rw [k2] at k1
        generalize ns.getD i 0 >>> s = r at *
        generalize ns.getD i 0 = a at *
        clear hcell h3 ha h1 hz E hrl
        go_wp2_with (first | (go_at_call 30; refine (TZ_any r _ HZ.out HRL.out HT.out).mono ?_; rintro e w' ⟨rfl, rfl⟩))
        go_ret2
        exact ⟨fst_eq EE.out (by omega), rfl⟩
    · have E := Lib.hid (next_none (f := f) (ns := ns) (q := 64 * i + s) (by rw [HW.out.1]; omega) HN.out)
      go_wp2
      go_ret2
      exact ⟨fst_eq E.out rfl, rfl⟩
theorem Next_neg (A : Option Addr) (len cap : Nat) (ns : List Nat) (p : Int) (w : World) (hl : len ≤ 1000) (hc : len ≤ cap) (hw : Words w A len ns) (ht : TabW w) (hp : p < 0) :
    Calls Tryd.prog 16 #[.slice A len cap, .int .i64 p] w fun e w' => e = .returned (.tuple #[.int .i64 ((nextN ns 0).1 : Nat), .bool (nextN ns 0).2]) ∧ w = w' := by
  have HW := Lib.hid hw
  have HT := Lib.hid ht
  clear hw ht
  go_enter Tryd.func16, Tryd.ntmps16
  go_wp2
  go_loop [6, 7] (fun sv iv => ∃ i s : Nat, iv = .int .i64 i ∧ sv = .int .i64 s ∧ s < 64 ∧ 0 ≤ 64 * i + s ∧ i ≤ 0 + len ∧ NoneTill ns 0 (64 * i + s)) (fun _ i => len - (intOf i).toNat)
  case atStart => exact ⟨0, 0, by simp, by simp, by omega, by omega, by omega, fun j h1 h2 => by omega⟩
  case round =>
    obtain ⟨i, s, rfl, rfl, hs, hf, hi, hn⟩ := hrel
    have HN := Lib.hid hn
    clear hn
    by_cases hlt : i < len
    · obtain ⟨h1, ha, h3⟩ := HW.out
      obtain ⟨b, off, rfl, hbl, hcell⟩ := h3 (by omega)
      have c0 := hcell i hlt
      by_cases hz : ns.getD i 0 >>> s = 0
      · have E : Hid (NoneTill ns 0 (64 * (i + 1) + 0)) := by
          intro j hj1 hj2
          by_cases hj : j < 64 * i + s
          · exact HN.out j hj1 hj
          · exact rest_zero ns i s j hz (by omega) (by omega)
        generalize ns.getD i 0 = a at *
        have k1 : (((a : Int) / 2 ^ s) != 0) = false := by rw [shr_nat, hz]; rfl
        clear hcell h3 ha h1 hz
        go_wp2
        go_round
        case rel => exact ⟨i + 1, 0, by go_num, by simp, by omega, by omega, by omega, E.out⟩
        case measure => simp [intOf]; omega
      · obtain ⟨E, hct⟩ := next_hit (f := 0) (by omega) hs ha hf HN.out hz
        have EE := Lib.hid E
        have hrl := shr_lt s (ha.at_ i)
        have k1 : (((ns.getD i 0 : Nat) : Int) / 2 ^ s != 0) = true := by rw [shr_nat]; exact bne_iff_ne.2 (fun h => hz (by exact_mod_cast h))
        have k2 := shr_nat (ns.getD i 0) s
        have HZ := Lib.hid hz
        have HRL := Lib.hid hrl
        rw [k2] at k1
        generalize ns.getD i 0 >>> s = r at *
        generalize ns.getD i 0 = a at *
        clear hcell h3 ha h1 hz E hrl
        go_wp2_with (first | (go_at_call 30; refine (TZ_any r _ HZ.out HRL.out HT.out).mono ?_; rintro e w' ⟨rfl, rfl⟩))
        go_ret2
        exact ⟨fst_eq EE.out (by omega), rfl⟩
    · have E := Lib.hid (next_none (f := 0) (ns := ns) (q := 64 * i + s) (by rw [HW.out.1]; omega) HN.out)
      go_wp2
      go_ret2
      exact ⟨fst_eq E.out rfl, rfl⟩

theorem Next_any (A : Option Addr) (len cap : Nat) (ns : List Nat) (p : Int) (w : World) (hl : len ≤ 1000) (hc : len ≤ cap) (hw : Words w A len ns) (ht : TabW w) (hp : p < 9223372036854775808) :
    Calls Tryd.prog 16 #[.slice A len cap, .int .i64 p] w fun e w' => e = .returned (.tuple #[.int .i64 ((nextN ns p.toNat).1 : Nat), .bool (nextN ns p.toNat).2]) ∧ w = w' := by
  by_cases h : p < 0
  · rw [show p.toNat = 0 by omega]; exact Next_neg A len cap ns p w hl hc hw ht h
  · obtain ⟨f, rfl⟩ := Int.eq_ofNat_of_zero_le (show 0 ≤ p by omega)
    exact Next_nat A len cap ns f w hl hc hw ht (by omega)
end Go.Proofs.YtefpgpehncllnaaDoor
