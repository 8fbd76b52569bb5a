/- Exact's small functions, and what counts of a list of hits. -/
import Derived.Test.YtgdcgilhaedbmaaCel1
import Derived.Deep.RegionHeld3
import Derived.Deep.DeepCutAuto
-- prune
namespace Go.Proofs.Ytgdcgilhaedbmaa
open Go.ChangeShapes Go.WideShapes Go.ChangeAt Go.RowKit
set_option linter.unusedVariables false

theorem isTick_yes (t : Int) (w : World) (h1 : 0 ≤ t) (h2 : t ≤ 1099511627776) : Calls Try.prog 21 #[.int .i64 t] w fun e w' => e = .returned (.bool true) ∧ w = w' := by
  go_enter Try.func21, Try.ntmps21
  go_wp2
  go_ret
  exact ⟨rfl, rfl⟩
theorem isTick_no (t : Int) (w : World) (h : ¬ (0 ≤ t ∧ t ≤ 1099511627776)) : Calls Try.prog 21 #[.int .i64 t] w fun e w' => e = .returned (.bool false) ∧ w = w' := by
  by_cases h1 : 0 ≤ t
  · have d : decide (t ≤ 1099511627776) = false := by simp; omega
    clear h
    go_enter Try.func21, Try.ntmps21
    go_wp2
    go_ret
    exact ⟨rfl, rfl⟩
  · clear h
    go_enter Try.func21, Try.ntmps21
    go_wp2
    go_ret
    exact ⟨rfl, rfl⟩
/-- A policy of kind Exact. -/
structure EP (k l v b : Int) : Prop where
  p : MayP k l v b
  k4 : k = 4
theorem EP.bd {k l v b : Int} (h : EP k l v b) : 1 ≤ l ∧ l ≤ 16 ∧ 1 ≤ v ∧ v ≤ 1048576 := by
  obtain ⟨h1, h2, h3, h4, h5, h6, h7, h8, h9⟩ := h.p
  exact ⟨h5, h7 h.k4, h3, h4⟩
/-- The sum of the first i. -/
def sumF (f : Nat → Int) : Nat → Int
  | 0 => 0
  | i + 1 => sumF f i + f i
/-- Hits that may be those of a cell. -/
structure MayHits (l v a : Int) (hn : Nat) (f g : Nat → Int) : Prop where
  each : ∀ i, i < hn → 0 ≤ f i ∧ a - v < f i ∧ f i ≤ a ∧ 1 ≤ g i ∧ g i ≤ l
  rise : ∀ i, i + 1 < hn → f i < f (i + 1)
  all : sumF g hn ≤ l
theorem sumF_bd {f : Nat → Int} {n : Nat} {l : Int} (h : ∀ i, i < n → 0 ≤ f i ∧ f i ≤ l) (hl : l ≤ 1048576) (i : Nat) (hi : i ≤ n) : 0 ≤ sumF f i ∧ sumF f i ≤ i * 1048576 := by
  induction i with
  | zero => simp [sumF]
  | succ i ih =>
    have := h i (by omega)
    have := ih (by omega)
    simp only [sumF]
    omega
theorem goes_any (k l v b x y : Int) (w : World) (x0 : -4398046511104 ≤ x) (x1 : x ≤ 4398046511104) (v1 : 0 ≤ v) (v2 : v ≤ 1048576) : Calls Try.prog 34 #[.agg #[.int .i64 k, .int .i64 l, .int .i64 v, .int .i64 b], .agg #[.int .i64 x, .int .i64 y]] w fun e w' => e = .returned (.int .i64 (x + v)) ∧ Below w.heap.size w w' := by
  have HB := Lib.hid (show Below w.heap.size w ((w.alloc (.cells #[.int .i64 k, .int .i64 l, .int .i64 v, .int .i64 b] 23)).alloc (.cells #[.int .i64 x, .int .i64 y] 50)) from ((Below.refl _ _).alloc (Nat.le_refl _) _).alloc (by simp) _)
  go_enter Try.func34, Try.ntmps34
  go_wp2
  go_ret
  exact ⟨rfl, HB.out⟩
set_option maxRecDepth 100000 in
set_option maxHeartbeats 2000000 in
theorem total_any (A : Option Addr) (n c : Nat) (f g : Nat → Int) (w : World) (hh : HitsAt w A n f g) (hg : ∀ i, i < n → 0 ≤ g i ∧ g i ≤ 1048576) (hn : n ≤ 64) :
    Calls Try.prog 27 #[.slice A n c] w fun e w' => e = .returned (.int .i64 (sumF g n)) ∧ Below w.heap.size w w' := by
  have HH := Lib.hid hh
  have HG := Lib.hid hg
  have HB := Lib.hid (sumF_bd hg (Int.le_refl _))
  have CV := Lib.hid (rfl : sumF g n = sumF g n)
  generalize hR : sumF g n = RES at CV ⊢
  have CW := Lib.hid hR
  clear hh hg hR CV
  go_enter Try.func27, Try.ntmps27
  go_wp2_with fail
  go_loopw [3, 8] (fun vn vi wr => ∃ i : Nat, i ≤ n ∧ vi = .int .i64 (i : Int) ∧ vn = .int .i64 (sumF g i) ∧ Below w.heap.size w wr) (fun _ vi _ => n - (intOf vi).toNat)
  case atStart => exact ⟨0, Nat.zero_le _, rfl, rfl, Below.refl _ _⟩
  case round =>
    obtain ⟨i, hi, rfl, rfl, hr⟩ := hrel
    have R1 := Lib.hid hr
    clear hr
    obtain ⟨c1, c2⟩ := HB.out i hi
    by_cases hlt : i < n
    · obtain ⟨b1, o1, rfl, hl, hc⟩ := HH.out (by omega)
      obtain ⟨x1, x2⟩ := HG.out i hlt
      have q1 := (R1.out.cell (p := ⟨b1, o1 + i * 2, none⟩) hl).trans (hc i hlt).1
      have q2 := (R1.out.cell (p := ⟨b1, o1 + i * 2 + 1, none⟩) hl).trans (hc i hlt).2
      have HS := Lib.hid (show sumF g (i + 1) = sumF g i + g i from rfl)
      clear hc
      generalize f i = y at *
      generalize g i = x at *
      generalize sumF g i = s at *
      have B0 : (0 : Int) ≤ (i : Int) := by omega
      have B1 : (i : Int) < (n : Int) := by omega
      have R2 := Lib.hid (R1.out.alloc R1.out.size (.cells #[.int .i64 y, .int .i64 x] 50))
      go_wp2_with fail
      go_roundw
      case rel => exact ⟨i + 1, by omega, by go_num, by rw [HS.out], R2.out⟩
      case measure => simp [intOf]; omega
    · have e : i = n := by omega
      subst e
      have E := Lib.hid CW.out
      generalize sumF g i = s at *
      go_wp2_with fail
      go_ret
      exact ⟨ret_int E.out, R1.out⟩
/-- What counts of hits at a time. -/
def cntE (v : Int) (f g : Nat → Int) (n : Nat) (t : Int) : Int := sumF (fun i => if t - v < f i then g i else 0) n
theorem cntE_bd {v t : Int} {f g : Nat → Int} {n : Nat} (hg : ∀ i, i < n → 0 ≤ g i ∧ g i ≤ 1048576) (i : Nat) (hi : i ≤ n) : 0 ≤ sumF (fun i => if t - v < f i then g i else 0) i ∧ sumF (fun i => if t - v < f i then g i else 0) i ≤ i * 1048576 :=
  sumF_bd (n := n) (l := 1048576) (fun j hj => by have := hg j hj; split <;> omega) (Int.le_refl _) i hi
/-- A policy, in a new block. -/
structure PB (w0 : World) (k l v b : Int) (w : World) : Prop where
  p : Has w w0.heap.size 23 [.int .i64 k, .int .i64 l, .int .i64 v, .int .i64 b]
  be : Below w0.heap.size w0 w
theorem PB.made (w : World) (k l v b : Int) : PB w k l v b (w.alloc (.cells #[.int .i64 k, .int .i64 l, .int .i64 v, .int .i64 b] 23)) := ⟨Has.made w 23 [.int .i64 k, .int .i64 l, .int .i64 v, .int .i64 b], (Below.refl _ _).alloc (Nat.le_refl _) _⟩
theorem PB.step {w0 w w' : World} {k l v b : Int} (h : PB w0 k l v b w) (hb : Below w.heap.size w w') : PB w0 k l v b w' := ⟨h.p.step hb, h.be.trans (hb.mono h.be.size)⟩
theorem PB.drew {w0 w : World} {k l v b : Int} (h : PB w0 k l v b w) : PB w0 k l v b w.drew := h.step (Below.refl _ _).drew
theorem PB.drewN {w0 w : World} {k l v b : Int} (h : PB w0 k l v b w) (m : Nat) : PB w0 k l v b (w.drewN m) := h.step (below_drewN (Below.refl _ _) m)
theorem PB.six {w0 w : World} {k l v b x y : Int} {g1 o : Nat} (h : PB w0 k l v b w) (hl : g1 < w0.heap.size) (hx : w0.cell? ⟨g1, o, none⟩ = some (.int .i64 x)) (hy : w0.cell? ⟨g1, o + 1, none⟩ = some (.int .i64 y)) : w.cell? ⟨w0.heap.size, 0, none⟩ = some (.int .i64 k) ∧ w.cell? ⟨w0.heap.size, 1, none⟩ = some (.int .i64 l) ∧ w.cell? ⟨w0.heap.size, 2, none⟩ = some (.int .i64 v) ∧ w.cell? ⟨w0.heap.size, 3, none⟩ = some (.int .i64 b) ∧ w.cell? ⟨g1, o, none⟩ = some (.int .i64 x) ∧ w.cell? ⟨g1, o + 1, none⟩ = some (.int .i64 y) :=
  ⟨h.p.cell 0, h.p.cell 1, h.p.cell 2, h.p.cell 3, (h.be.cell (p := ⟨g1, o, none⟩) hl).trans hx, (h.be.cell (p := ⟨g1, o + 1, none⟩) hl).trans hy⟩
set_option maxRecDepth 100000 in
set_option maxHeartbeats 2000000 in
theorem counts_any (k l v b t : Int) (A : Option Addr) (n c : Nat) (f g : Nat → Int) (w : World) (hh : HitsAt w A n f g) (hg : ∀ i, i < n → 0 ≤ g i ∧ g i ≤ 1048576) (hn : n ≤ 64) (t1 : 0 ≤ t) (t2 : t ≤ 4398046511104) (v1 : 1 ≤ v) (v2 : v ≤ 1048576) :
    Calls Try.prog 29 #[.agg #[.int .i64 k, .int .i64 l, .int .i64 v, .int .i64 b], .slice A n c, .int .i64 t] w fun e w' => e = .returned (.int .i64 (cntE v f g n t)) ∧ Below w.heap.size w w' := by
  have HH := Lib.hid hh
  have HG := Lib.hid hg
  have HB := Lib.hid (cntE_bd (v := v) (t := t) (f := f) hg)
  have CV := Lib.hid (show sumF (fun i => if t - v < f i then g i else 0) n = cntE v f g n t from rfl)
  have SC := Lib.hid (fun i => (show sumF (fun i => if t - v < f i then g i else 0) (i + 1) = sumF (fun i => if t - v < f i then g i else 0) i + (if t - v < f i then g i else 0) from rfl))
  generalize cntE v f g n t = RES at *
  have S0 := Lib.hid (show sumF (fun i => if t - v < f i then g i else 0) 0 = 0 from rfl)
  generalize hS : sumF (fun i => if t - v < f i then g i else 0) = S at *
  clear hh hg hS
  have e1 : IntKind.i64.wrap (t - v) = t - v := wrap_i (by omega) (by omega)
  have HP := Lib.hid (PB.made w k l v b)
  go_enter Try.func29, Try.ntmps29
  go_wp2_with fail
  generalize w.alloc (.cells #[.int .i64 k, .int .i64 l, .int .i64 v, .int .i64 b] 23) = w0 at HP ⊢
  go_loopw [7, 8] (fun vn vi wr => ∃ i : Nat, i ≤ n ∧ vi = .int .i64 (i : Int) ∧ vn = .int .i64 (S i) ∧ PB w k l v b wr) (fun _ vi _ => n - (intOf vi).toNat)
  case atStart => exact ⟨0, Nat.zero_le _, rfl, by rw [S0.out], HP.out⟩
  case round =>
    obtain ⟨i, hi, rfl, rfl, hr⟩ := hrel
    have R1 := Lib.hid hr
    clear hr HP
    obtain ⟨c1, c2⟩ := HB.out i hi
    by_cases hlt : i < n
    · obtain ⟨b1, o1, rfl, hl, hc⟩ := HH.out (by omega)
      obtain ⟨x1, x2⟩ := HG.out i hlt
      have SI := Lib.hid (SC.out i)
      obtain ⟨j0, j1, j2, j3, q1, q2⟩ := R1.out.six hl (hc i hlt).1 (hc i hlt).2
      clear hc
      generalize f i = y at *
      generalize g i = x at *
      generalize hs : S i = s at *
      clear hs
      have B0 : (0 : Int) ≤ (i : Int) := by omega
      have B1 : (i : Int) < (n : Int) := by omega
      by_cases hy : t - v < y
      · have SI2 := Lib.hid (show S (i + 1) = s + x by rw [SI.out, if_pos hy])
        have hd : decide (t - v < y) = true := by simp; omega
        clear SI
        go_wp2_with fail
        go_quiet (fail)
        go_wp2_with fail
        go_roundw
        case rel => exact ⟨i + 1, by omega, by go_num, by rw [SI2.out], R1.out.drewN nq⟩
        case measure => simp [intOf]; omega
      · have SI2 := Lib.hid (show S (i + 1) = s by rw [SI.out, if_neg hy, Int.add_zero])
        have hd : decide (t - v < y) = false := by simp; omega
        clear SI
        go_wp2_with fail
        go_quiet (fail)
        go_wp2_with fail
        go_roundw
        case rel => exact ⟨i + 1, by omega, by go_num, by rw [SI2.out], R1.out.drewN nq⟩
        case measure => simp [intOf]; omega
    · have e : i = n := by omega
      subst e
      have E := Lib.hid CV.out
      generalize S i = s at *
      go_wp2_with fail
      go_ret
      exact ⟨ret_int E.out, R1.out.be⟩
end Go.Proofs.Ytgdcgilhaedbmaa
