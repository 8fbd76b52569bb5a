/- Hits that still count, when no more than so much counts, and how long the document waits: the contracts. -/
import Derived.Test.YtgdcgilhaedbmaaEx0
import Derived.WalkMore
-- prune
namespace Go.Proofs.Ytgdcgilhaedbmaa
open Go.ChangeShapes Go.WideShapes Go.ChangeAt Go.RowKit
set_option linter.unusedVariables false

def sliceLen : Value → Nat
  | .slice _ n _ => n
  | _ => 0
/-- A list from its j-th one on. -/
def sh (j : Nat) (f : Nat → Int) (i : Nat) : Int := f (j + i)
/-- The first one from the j-th on, of at most r, that counts; the one behind them, if there is none. -/
def firstE (v t : Int) (f : Nat → Int) : Nat → Nat → Nat
  | j, 0 => j
  | j, r + 1 => if t < f j + v then j else firstE v t f (j + 1) r
theorem firstE_spec (v t : Int) (f : Nat → Int) : ∀ (r j : Nat), j ≤ firstE v t f j r ∧ firstE v t f j r ≤ j + r ∧ (∀ i, j ≤ i → i < firstE v t f j r → f i + v ≤ t) ∧ (firstE v t f j r < j + r → t < f (firstE v t f j r) + v) := by
  intro r
  induction r with
  | zero => intro j; rw [firstE]; exact ⟨Nat.le_refl _, Nat.le_refl _, fun i h1 h2 => by omega, fun h => by omega⟩
  | succ r ih =>
    intro j
    rw [firstE]
    by_cases c : t < f j + v
    · rw [if_pos c]; exact ⟨Nat.le_refl _, by omega, fun i h1 h2 => by omega, fun _ => c⟩
    · rw [if_neg c]
      obtain ⟨h1, h2, h3, h4⟩ := ih (j + 1)
      refine ⟨by omega, by omega, fun i hi hk => ?_, fun h => h4 (by omega)⟩
      by_cases e : i = j
      · subst e; omega
      · exact h3 i (by omega) hk
theorem HitsAt.next {w : World} {b o m : Nat} {f g : Nat → Int} {j : Nat} (h : HitsAt w (some ⟨b, o, none⟩) (m + 1) (sh j f) (sh j g)) : HitsAt w (some ⟨b, o + 2, none⟩) m (sh (j + 1) f) (sh (j + 1) g) := by
  intro h0
  obtain ⟨b', o', e, hl, hc⟩ := h (by omega)
  cases e
  refine ⟨b, o + 2, rfl, hl, fun i hi => ?_⟩
  have := hc (i + 1) (by omega)
  unfold sh at *
  rw [show o + (i + 1) * 2 = o + 2 + i * 2 by omega, show j + (i + 1) = j + 1 + i by omega] at this
  exact this
theorem HitsAt.nextIf {w : World} {b o m c : Nat} {f g : Nat → Int} {j : Nat} (h : HitsAt w (some ⟨b, o, none⟩) (m + 1) (sh j f) (sh j g)) (hc : m + 1 ≤ c) : HitsAt w (if c = 1 then some ⟨b, o, none⟩ else some ⟨b, o + 2, none⟩) m (sh (j + 1) f) (sh (j + 1) g) := by
  split
  · obtain rfl : m = 0 := by omega
    exact HitsAt.nil _ _ _ _
  · exact h.next
/-- What counting tells. -/
def Counted (n c J : Nat) (f g : Nat → Int) (w : World) (e : Ending) (w' : World) : Prop :=
  ∃ A' m' c', e = .returned (.slice A' m' c') ∧ J + m' = n ∧ m' ≤ c' ∧ c' ≤ c ∧ HitsAt w' A' m' (sh J f) (sh J g) ∧ Below w.heap.size w w'
set_option maxRecDepth 100000 in
set_option maxHeartbeats 4000000 in
theorem counting_any (k l v b t : Int) (A : Option Addr) (n c : Nat) (f g : Nat → Int) (w : World) (hh : HitsAt w A n f g) (hf : ∀ i, i < n → 0 ≤ f i ∧ f i ≤ 1099511627776) (hn : n ≤ 64) (hc : n ≤ c) (hc2 : c ≤ maxLen) (v1 : 1 ≤ v) (v2 : v ≤ 1048576) :
    Calls Try.prog 24 #[.agg #[.int .i64 k, .int .i64 l, .int .i64 v, .int .i64 b], .slice A n c, .int .i64 t] w (Counted n c (firstE v t f 0 n) f g w) := by
  have HH := Lib.hid hh
  have HF := Lib.hid hf
  unfold maxLen at hc2
  have GO := Lib.hid (fun x y u (x0 : 0 ≤ x) (x1 : x ≤ 1099511627776) => goes_any k l v b x y u (by omega) (by omega) (by omega) v2)
  obtain ⟨J, hJ⟩ : ∃ J, firstE v t f 0 n = J := ⟨_, rfl⟩
  rw [hJ]
  have HJ := Lib.hid hJ
  clear hJ hh hf
  have HP := Lib.hid (PB.made w k l v b)
  go_enter Try.func24, Try.ntmps24
  go_wp2_with fail
  generalize w.alloc (.cells #[.int .i64 k, .int .i64 l, .int .i64 v, .int .i64 b] 23) = w0 at HP ⊢
  go_step3
  go_wp2_with fail
  go_step3
  go_wp2_with fail
  go_loopw [1] (fun vs wr => ∃ (j m c' : Nat) (A' : Option Addr), j + m = n ∧ m ≤ c' ∧ c' ≤ c ∧ vs = .slice A' m c' ∧ Hid (firstE v t f j m = J) ∧ HitsAt w A' m (sh j f) (sh j g) ∧ PB w k l v b wr) (fun vs _ => sliceLen vs)
  case atStart => exact ⟨0, n, c, A, by omega, hc, Nat.le_refl _, rfl, HJ, HH.out.congr (fun i _ => by simp [sh]), HP.out⟩
  case round =>
    obtain ⟨j, m, c', A', hjm, hmc, hcc, rfl, HK, hh, hr⟩ := hrel
    have R1 := Lib.hid hr
    have HX := Lib.hid hh
    clear hr HP hh
    by_cases hlt : 0 < m
    · obtain ⟨m', rfl⟩ : ∃ m', m = m' + 1 := ⟨m - 1, by omega⟩
      obtain ⟨b1, o1, rfl, hl, hce⟩ := HX.out (by omega)
      obtain ⟨x0, x1⟩ := HF.out j (by omega)
      obtain ⟨X1, X2⟩ := hce 0 (by omega)
      have hx1 : w.cell? ⟨b1, o1, none⟩ = some (.int .i64 (f j)) := X1
      have hx2 : w.cell? ⟨b1, o1 + 1, none⟩ = some (.int .i64 (g j)) := by simpa [sh] using X2
      clear hce X1 X2
      have HN := Lib.hid (HX.out.nextIf hmc)
      have K1 := Lib.hid (fun (q : t < f j + v) => (show j = J by rw [← HK.out, firstE, if_pos q]))
      have K2 := Lib.hid (fun (q : ¬ t < f j + v) => (show firstE v t f (j + 1) m' = J by rw [← HK.out, firstE, if_neg q]))
      have GX := Lib.hid (fun u => GO.out (f j) (g j) u x0 x1)
      have HX1 := Lib.hid hx1
      have HX2 := Lib.hid hx2
      clear hx1 hx2
      generalize f j = x at *
      generalize g j = y at *
      have B1 : (0 : Int) < ((m' + 1 : Nat) : Int) := by omega
      by_cases hx : t < x + v
      · have J1 := K1.out hx
        go_upto_region 3 with (fail)
        go_region_held3 (fun w' => w'.cell? ⟨w.heap.size, 0, none⟩ = some (.int .i64 k) ∧ w'.cell? ⟨w.heap.size, 1, none⟩ = some (.int .i64 l) ∧ w'.cell? ⟨w.heap.size, 2, none⟩ = some (.int .i64 v) ∧ w'.cell? ⟨w.heap.size, 3, none⟩ = some (.int .i64 b) ∧ w'.cell? ⟨b1, o1, none⟩ = some (.int .i64 x) ∧ w'.cell? ⟨b1, o1 + 1, none⟩ = some (.int .i64 y)) (first | (with_reducible exact R1.out.six hl HX1.out HX2.out) | (with_reducible exact R1.out.drew.six hl HX1.out HX2.out) | (with_reducible exact R2.out.six hl HX1.out HX2.out) | go_keep) (first | (go_at_call 34; (with_reducible refine (GX.out _).mono ?_); rintro e w2 ⟨rfl, hb⟩; have R2 := Lib.hid (R1.out.drew.step hb); clear hb))
        all_goals
          go_wp2_with fail
          rw [Exit.noGoto_ret]
          go_ret
          exact ⟨_, _, _, rfl, by omega, hmc, hcc, by rw [← J1]; exact HX.out.below R2.out.be, R2.out.be⟩
      · go_upto_region 3 with (fail)
        go_region_held3 (fun w' => w'.cell? ⟨w.heap.size, 0, none⟩ = some (.int .i64 k) ∧ w'.cell? ⟨w.heap.size, 1, none⟩ = some (.int .i64 l) ∧ w'.cell? ⟨w.heap.size, 2, none⟩ = some (.int .i64 v) ∧ w'.cell? ⟨w.heap.size, 3, none⟩ = some (.int .i64 b) ∧ w'.cell? ⟨b1, o1, none⟩ = some (.int .i64 x) ∧ w'.cell? ⟨b1, o1 + 1, none⟩ = some (.int .i64 y)) (first | (with_reducible exact R1.out.six hl HX1.out HX2.out) | (with_reducible exact R1.out.drew.six hl HX1.out HX2.out) | (with_reducible exact R2.out.six hl HX1.out HX2.out) | go_keep) (first | (go_at_call 34; (with_reducible refine (GX.out _).mono ?_); rintro e w2 ⟨rfl, hb⟩; have R2 := Lib.hid (R1.out.drew.step hb); clear hb))
        all_goals
          go_wp2_with fail
          go_roundw
          case rel => exact ⟨j + 1, m', c' - 1, _, by omega, by omega, by omega, rfl, Lib.hid (K2.out hx), HN.out, R2.out⟩
          case measure => simp [sliceLen]
    · obtain rfl : m = 0 := by omega
      have J1 : j = J := by rw [← HK.out, firstE]
      go_wp2_with fail
      go_ret
      exact ⟨_, _, _, rfl, by omega, hmc, hcc, HitsAt.nil _ _ _ _, R1.out.be⟩
end Go.Proofs.Ytgdcgilhaedbmaa
