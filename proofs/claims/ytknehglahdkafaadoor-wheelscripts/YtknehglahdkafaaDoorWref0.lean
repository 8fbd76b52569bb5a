/- The document's own wheel, as it lies in memory; its calls that only look. -/
import Derived.Test.YtknehglahdkafaaDoorWheelOnce1
import Derived.Test.YtknehglahdkafaaDoorSpread
namespace Go.Proofs.YtknehglahdkafaaDoor
open Go.ChangeShapes Go.WideShapes Go.ChangeAt Go.RowKit
set_option linter.unusedVariables false

/-- The document's wheel of these rows; its rows lie apart from N. -/
structure RW (w : World) (bR : Nat) (N : Nat → Prop) (R : Nat → List Nat) (vs : List Value) : Prop where
  ar : Has w bR 29 vs
  ln : vs.length = 64
  at_ : ∀ s, s < 64 → ∃ A cap, vs[s]? = some (.slice A (R s).length cap) ∧ IntsAt w A cap ((R s).map fun (x : Nat) => (x : Int)) ∧ ∀ a, A = some a → ¬ N a.block ∧ a.block ≠ bR ∧ a.block < w.heap.size
  nb : ¬ N bR
  le : tot R 64 ≤ 900
section
variable {w w' : World} {bR : Nat} {N : Nat → Prop} {R : Nat → List Nat} {vs : List Value}
theorem RW.get (h : RW w bR N R vs) {s : Nat} (hs : s < 64) : ∃ A cap, w.cell? ⟨bR, s, none⟩ = some (.slice A (R s).length cap) ∧ (R s).length ≤ cap ∧ IntsAt w A cap ((R s).map fun (x : Nat) => (x : Int)) := by
  obtain ⟨A, cap, h1, h2, _⟩ := h.at_ s hs
  refine ⟨A, cap, by rw [h.ar.cell s, h1], ?_, h2⟩
  have := h2.1
  rwa [List.length_map] at this
theorem RW.kept (h : RW w bR N R vs) (hk : Kept N w w') : RW w' bR N R vs :=
  ⟨h.ar.kept hk h.nb, h.ln, fun s hs => by
    obtain ⟨A, cap, h1, h2, h3⟩ := h.at_ s hs
    exact ⟨A, cap, h1, h2.kept hk (fun a e => (h3 a e).1), fun a e => ⟨(h3 a e).1, (h3 a e).2.1, Nat.lt_of_lt_of_le (h3 a e).2.2 hk.size⟩⟩, h.nb, h.le⟩
theorem RW.below (h : RW w bR N R vs) (hb : Below w.heap.size w w') : RW w' bR N R vs := h.kept (Kept.of_below hb)
theorem RW.len (h : RW w bR N R vs) {s : Nat} (hs : s < 64) : (R s).length ≤ 900 := Nat.le_trans (row_le R s 64 hs) h.le
theorem RW.congr {R' : Nat → List Nat} (h : RW w bR N R vs) (e : ∀ i, i < 64 → R i = R' i) : RW w bR N R' vs :=
  ⟨h.ar, h.ln, fun s hs => by rw [← e s hs]; exact h.at_ s hs, h.nb, by rw [← tot_congr (R := R) (R' := R') 64 (fun i hi => by rw [e i hi])]; exact h.le⟩
/-- One row is stored anew. -/
theorem RW.set (h : RW w bR N R vs) {i n cap : Nat} {A : Option Addr} {l : List Nat} (hi : i < 64) (hn : l.length = n) (hI : IntsAt w A cap (l.map fun (x : Nat) => (x : Int))) (hA : ∀ a, A = some a → ¬ N a.block ∧ a.block ≠ bR ∧ a.block < w.heap.size) (hl : tot (upd R i l) 64 ≤ 900) :
    RW (w.setCell ⟨bR, i, none⟩ (.slice A n cap)) bR N (upd R i l) (vs.set i (.slice A n cap)) := by
  have hk : Kept (fun x => x = bR) w (w.setCell ⟨bR, i, none⟩ (.slice A n cap)) := (Kept.refl (fun x => x = bR) w).setCell (p := ⟨bR, i, none⟩) (.inl rfl) _
  subst hn
  refine ⟨h.ar.store i _, by rw [List.length_set]; exact h.ln, fun s hs => ?_, h.nb, hl⟩
  by_cases e : s = i
  · subst e
    refine ⟨A, cap, by rw [List.getElem?_set_self (by rw [h.ln]; exact hi), upd_same], ?_, fun a q => ⟨(hA a q).1, (hA a q).2.1, Nat.lt_of_lt_of_le (hA a q).2.2 hk.size⟩⟩
    rw [upd_same]
    exact hI.kept hk (fun a q => (hA a q).2.1)
  · obtain ⟨B, c, h1, h2, h3⟩ := h.at_ s hs
    refine ⟨B, c, by rw [List.getElem?_set_ne (fun q => e q.symm), upd_other R _ e]; exact h1, ?_, fun a q => ⟨(h3 a q).1, (h3 a q).2.1, Nat.lt_of_lt_of_le (h3 a q).2.2 hk.size⟩⟩
    rw [upd_other R _ e]
    exact h2.kept hk (fun a q => (h3 a q).2.1)
end
section
variable (bR : Nat) (N : Nat → Prop) (R : Nat → List Nat) (vs : List Value) (w : World) (h : RW w bR N R vs)
include h
theorem rRow_in (i : Nat) (hi : i < 64) : Calls Tryd.prog 25 #[.pointer (some ⟨bR, 0, none⟩), .int .i64 (i : Int)] w fun e w' => ∃ A cap, e = .returned (.slice A (R i).length cap) ∧ w = w' ∧ IntsAt w A cap ((R i).map fun (x : Nat) => (x : Int)) ∧ ∀ a, A = some a → ¬ N a.block ∧ a.block ≠ bR ∧ a.block < w.heap.size := by
  obtain ⟨A, cap, h1, h2, h3⟩ := h.at_ i hi
  have d0 := h.ar.cell i
  rw [h1] at d0
  have HH := Lib.hid (And.intro h2 h3)
  clear h h1 h2 h3
  generalize (R i).length = n at *
  go_enter Tryd.func25, Tryd.ntmps25
  go_wp2
  go_ret
  exact ⟨A, cap, rfl, rfl, HH.out.1, HH.out.2⟩
omit h in
theorem rRow_out (k : Int) (hk : ¬ (0 ≤ k ∧ k < 64)) : Calls Tryd.prog 25 #[.pointer (some ⟨bR, 0, none⟩), .int .i64 k] w fun e w' => e = .returned (.slice none 0 0) ∧ w = w' := by
  by_cases h0 : k < 0
  · clear hk
    go_enter Tryd.func25, Tryd.ntmps25
    go_wp2
    go_ret
    exact ⟨rfl, rfl⟩
  · have h1 : 63 < k := by omega
    clear hk
    go_enter Tryd.func25, Tryd.ntmps25
    go_wp2
    go_ret
    exact ⟨rfl, rfl⟩
set_option maxRecDepth 100000 in
theorem rLen_any : Calls Tryd.prog 14 #[.pointer (some ⟨bR, 0, none⟩)] w fun e w' => e = .returned (.int .i64 ((tot R 64 : Nat) : Int)) ∧ w = w' := by
  have H := Lib.hid h
  clear h
  go_enter Tryd.func14, Tryd.ntmps14
  go_wp2
  go_loop [3, 4] (fun n s => ∃ t : Nat, t ≤ 64 ∧ s = .int .i64 (t : Int) ∧ n = .int .i64 ((tot R t : Nat) : Int)) (fun _ s => 64 - (intOf s).toNat)
  case atStart => exact ⟨0, by omega, rfl, rfl⟩
  case round =>
    obtain ⟨t, ht, rfl, rfl⟩ := hrel
    by_cases hlt : t < 64
    · obtain ⟨A, cap, d0, hc, _⟩ := H.out.get hlt
      have hm := tot_mono R (a := t) (b := 64) (by omega)
      have hle := H.out.le
      have hl := H.out.len hlt
      have HE := Lib.hid (show tot R (t + 1) = tot R t + (R t).length from rfl)
      generalize (R t).length = n at *
      generalize tot R t = m at *
      go_wp2
      go_round
      case rel => exact ⟨t + 1, by omega, by go_num, by rw [HE.out]; go_num⟩
      case measure => simp [intOf]; omega
    · obtain rfl : t = 64 := by omega
      go_wp2
      go_ret
      exact ⟨rfl, rfl⟩
end
/-- The word of the last d rows. -/
def mD (R : Nat → List Nat) : Nat → Nat
  | 0 => 0
  | d + 1 => 2 * mD R d + (if R (63 - d) = [] then 0 else 1)
theorem mD_lt (R : Nat → List Nat) (d : Nat) : mD R d < 2 ^ d := by
  induction d with
  | zero => show 0 < 1; omega
  | succ d ih => rw [mD, Nat.pow_succ]; split <;> omega
theorem mD_bit (R : Nat → List Nat) (d : Nat) (hd : d ≤ 64) : ∀ i, i < d → (mD R d).testBit i = !(R (64 - d + i)).isEmpty := by
  induction d with
  | zero => intro i hi; omega
  | succ d ih =>
    intro i hi
    rw [mD]
    cases i with
    | zero =>
      rw [show 64 - (d + 1) + 0 = 63 - d by omega]
      cases q : R (63 - d) with
      | nil => simp [Nat.testBit_zero]
      | cons a l => simp [Nat.testBit_zero]
    | succ i =>
      rw [Nat.testBit_succ, show 64 - (d + 1) + (i + 1) = 64 - d + i by omega, ← ih (by omega) i (by omega)]
      congr 1
      split <;> omega
theorem len_nz {l : List Nat} (h : l ≠ []) : 0 < l.length := List.length_pos_iff.2 h
section
variable (bR : Nat) (N : Nat → Prop) (R : Nat → List Nat) (vs : List Value) (w : World) (h : RW w bR N R vs)
include h
set_option maxRecDepth 100000 in
theorem rMask_any : Calls Tryd.prog 12 #[.pointer (some ⟨bR, 0, none⟩)] w fun e w' => e = .returned (.int .u64 ((mD R 64 : Nat) : Int)) ∧ w = w' := by
  have H := Lib.hid h
  clear h
  go_enter Tryd.func12, Tryd.ntmps12
  go_wp2
  go_loop [3, 4] (fun n s => ∃ d : Nat, d ≤ 64 ∧ s = .int .i64 (63 - (d : Int)) ∧ n = .int .u64 ((mD R d : Nat) : Int)) (fun _ s => ((intOf s) + 1).toNat)
  case atStart => exact ⟨0, by omega, rfl, rfl⟩
  case round =>
    obtain ⟨d, hd, rfl, rfl⟩ := hrel
    by_cases hlt : d < 64
    · obtain ⟨t, ht⟩ : ∃ t : Nat, t = 63 - d := ⟨_, rfl⟩
      have e0 : (63 : Int) - (d : Int) = (t : Int) := by omega
      have ht64 : t < 64 := by omega
      obtain ⟨A, cap, d0, hc, _⟩ := H.out.get ht64
      have hl := H.out.len ht64
      have hb := mD_lt R d
      have hp : 2 ^ d ≤ 9223372036854775808 := Nat.le_trans (Nat.pow_le_pow_right (by decide) (show d ≤ 63 by omega)) (by decide)
      have w1 : IntKind.u64.wrap (2 * ((mD R d : Nat) : Int)) = ((2 * mD R d : Nat) : Int) := by rw [wrapU]; omega
      have w2 : IntKind.u64.wrap (((2 * mD R d : Nat) : Int) + 1) = ((2 * mD R d + 1 : Nat) : Int) := by rw [wrapU]; omega
      have E := Lib.hid (show mD R (d + 1) = 2 * mD R d + (if R t = [] then 0 else 1) by rw [mD, ht])
      have HD := Lib.hid (show (t : Int) - 1 = 63 - ((d + 1 : Nat) : Int) by omega)
      rw [e0]
      by_cases hz : R t = []
      · rw [if_pos hz] at E
        rw [hz] at d0 hc
        simp at d0
        clear hb hp ht e0 hz
        generalize 2 * mD R d = m2 at *
        generalize mD R d = m at *
        go_wp2
        go_round
        case rel => exact ⟨d + 1, by omega, by rw [← HD.out], by rw [E.out]; rfl⟩
        case measure => simp [intOf]
      · rw [if_neg hz] at E
        have hz2 := len_nz hz
        clear hb hp ht e0 hz
        generalize (R t).length = n at *
        generalize 2 * mD R d = m2 at *
        generalize mD R d = m at *
        go_wp2
        go_round
        case rel => exact ⟨d + 1, by omega, by rw [← HD.out], by rw [E.out]; first | rfl | (refine val_int ?_; omega) | (refine val_int ?_; exact w2)⟩
        case measure => simp [intOf]
    · obtain rfl : d = 64 := by omega
      go_wp2
      go_ret
      exact ⟨rfl, rfl⟩
end
end Go.Proofs.YtknehglahdkafaaDoor
