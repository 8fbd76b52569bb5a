/- The lists of cells as they lie in memory, and the document's Same of cells whose lists are alike. -/
import Derived.Test.YtgdcgilhaedbmaaGcOpen
import Derived.Test.YtgdcgilhaedbmaaMem
import Derived.Deep.QuietTactic
import Derived.BigQuiet
-- prune
namespace Go.Proofs.Ytgdcgilhaedbmaa
open Go.ChangeShapes Go.WideShapes Go.ChangeAt Go.RowKit
set_option linter.unusedVariables false

/-- A slice of numbers reads as f. -/
def SumsAt (w : World) (A : Option Addr) (len : Nat) (f : Nat → Int) : Prop :=
  0 < len → ∃ b off, A = some ⟨b, off, none⟩ ∧ b < w.heap.size ∧ ∀ i, i < len → w.cell? ⟨b, off + i, none⟩ = some (.int .i64 (f i))
/-- A slice of hits reads as f (ticks) and g (weights). -/
def HitsAt (w : World) (A : Option Addr) (len : Nat) (f g : Nat → Int) : Prop :=
  0 < len → ∃ b off, A = some ⟨b, off, none⟩ ∧ b < w.heap.size ∧ ∀ i, i < len → w.cell? ⟨b, off + i * 2, none⟩ = some (.int .i64 (f i)) ∧ w.cell? ⟨b, off + i * 2 + 1, none⟩ = some (.int .i64 (g i))
theorem SumsAt.below {w w' : World} {A : Option Addr} {len : Nat} {f : Nat → Int} (h : SumsAt w A len f) (hb : Below w.heap.size w w') : SumsAt w' A len f := by
  intro h0
  obtain ⟨b, off, e, hl, hc⟩ := h h0
  exact ⟨b, off, e, Nat.lt_of_lt_of_le hl hb.size, fun i hi => (hb.cell (p := ⟨b, off + i, none⟩) hl).trans (hc i hi)⟩
theorem HitsAt.below {w w' : World} {A : Option Addr} {len : Nat} {f g : Nat → Int} (h : HitsAt w A len f g) (hb : Below w.heap.size w w') : HitsAt w' A len f g := by
  intro h0
  obtain ⟨b, off, e, hl, hc⟩ := h h0
  exact ⟨b, off, e, Nat.lt_of_lt_of_le hl hb.size, fun i hi => ⟨(hb.cell (p := ⟨b, off + i * 2, none⟩) hl).trans (hc i hi).1, (hb.cell (p := ⟨b, off + i * 2 + 1, none⟩) hl).trans (hc i hi).2⟩⟩
theorem SumsAt.nil (w : World) (A : Option Addr) (f : Nat → Int) : SumsAt w A 0 f := fun h => absurd h (by omega)
theorem HitsAt.nil (w : World) (A : Option Addr) (f g : Nat → Int) : HitsAt w A 0 f g := fun h => absurd h (by omega)
theorem SumsAt.congr {w : World} {A : Option Addr} {len : Nat} {f g : Nat → Int} (h : SumsAt w A len f) (e : ∀ i, i < len → f i = g i) : SumsAt w A len g := by
  intro h0
  obtain ⟨b, off, ea, hl, hc⟩ := h h0
  exact ⟨b, off, ea, hl, fun i hi => by rw [← e i hi]; exact hc i hi⟩
/-- The lists of a cell that came in. -/
theorem IsHits.at_ {w : World} {A : Option Addr} {len cap : Nat} (h : IsHits w A len cap) : ∃ f g, HitsAt w A len f g := by
  obtain ⟨_, _, hk⟩ := h
  by_cases h0 : 0 < len
  · obtain ⟨b, off, e, hl, hc⟩ := hk h0
    refine ⟨fun i => if h : i < len then (hc i h).choose else 0, fun i => if h : i < len then (hc i h).choose_spec.choose else 0, fun _ => ⟨b, off, e, hl, fun i hi => ?_⟩⟩
    simp only [hi, dif_pos]
    exact (hc i hi).choose_spec.choose_spec
  · exact ⟨fun _ => 0, fun _ => 0, fun h => absurd h h0⟩
theorem IsInts.at_ {w : World} {A : Option Addr} {len cap : Nat} {zs : List Int} (h : IsInts .i64 w A len cap zs) : SumsAt w A len (fun i => zs.getD i 0) ∧ ∀ i, (Lit.int .i64 (zs.getD i 0)).wf = true := by
  rcases h with ⟨rfl, rfl, rfl, rfl⟩ | ⟨x, rfl, hl, hm, hz, hc, hw⟩
  · exact ⟨SumsAt.nil _ _ _, fun i => by simp [Lit.wf, IntKind.min, IntKind.max, IntKind.signed, IntKind.bits]⟩
  · refine ⟨fun h0 => ?_, fun i => ?_⟩
    · obtain ⟨b, off, spot⟩ := x
      have h1 := hc 0 (by omega)
      have hspot : spot = none := by simpa [Addr.add] using World.cell?_spot h1
      subst hspot
      have e2 : ∀ i, (⟨b, off, none⟩ : Addr).add i = ⟨b, off + i, none⟩ := fun i => by unfold Addr.add; split <;> simp_all
      have hlt : b < w.heap.size := by
        have := block_lt_of_cell h1
        rw [e2] at this
        exact this
      refine ⟨b, off, rfl, hlt, fun i hi => ?_⟩
      have h2 := hc i (by omega)
      rw [e2] at h2
      exact h2
    · rcases Nat.lt_or_ge i zs.length with hi | hi
      · rw [List.getD_eq_getElem?_getD, List.getElem?_eq_getElem hi]; exact hw _ (List.getElem_mem hi)
      · rw [List.getD_eq_getElem?_getD, List.getElem?_eq_none hi]; simp [Lit.wf, IntKind.min, IntKind.max, IntKind.signed, IntKind.bits]

/-- Two cells, in two new blocks. -/
structure TwoC (w0 : World) (a n a' n' : Int) (x y x' y' : Value) (w : World) : Prop where
  c : Has w w0.heap.size 27 [.int .i64 a, .int .i64 n, x, y]
  d : Has w (w0.heap.size + 1) 27 [.int .i64 a', .int .i64 n', x', y']
  be : Below w0.heap.size w0 w
theorem TwoC.made (w : World) (a n a' n' : Int) (x y x' y' : Value) : TwoC w a n a' n' x y x' y' ((w.alloc (.cells #[.int .i64 a, .int .i64 n, x, y] 27)).alloc (.cells #[.int .i64 a', .int .i64 n', x', y'] 27)) := by
  refine ⟨(Has.made w 27 [.int .i64 a, .int .i64 n, x, y]).alloc _, ?_, ((Below.refl _ _).alloc (Nat.le_refl _) _).alloc (by simp) _⟩
  have := Has.made (w.alloc (.cells #[.int .i64 a, .int .i64 n, x, y] 27)) 27 [.int .i64 a', .int .i64 n', x', y']
  simpa using this
theorem TwoC.cells {w0 w : World} {a n a' n' : Int} {x y x' y' : Value} (h : TwoC w0 a n a' n' x y x' y' w) :
    w.cell? ⟨w0.heap.size, 0, none⟩ = some (.int .i64 a) ∧ w.cell? ⟨w0.heap.size, 1, none⟩ = some (.int .i64 n) ∧ w.cell? ⟨w0.heap.size, 2, none⟩ = some x ∧ w.cell? ⟨w0.heap.size, 3, none⟩ = some y ∧
    w.cell? ⟨w0.heap.size + 1, 0, none⟩ = some (.int .i64 a') ∧ w.cell? ⟨w0.heap.size + 1, 1, none⟩ = some (.int .i64 n') ∧ w.cell? ⟨w0.heap.size + 1, 2, none⟩ = some x' ∧ w.cell? ⟨w0.heap.size + 1, 3, none⟩ = some y' :=
  ⟨h.c.cell 0, h.c.cell 1, h.c.cell 2, h.c.cell 3, h.d.cell 0, h.d.cell 1, h.d.cell 2, h.d.cell 3⟩
theorem below_drewN {B : Nat} {w w' : World} (h : Below B w w') (m : Nat) : Below B w (w'.drewN m) := ⟨h.os, h.tape, h.output, h.size, h.block⟩

set_option maxRecDepth 100000 in
set_option maxHeartbeats 2000000 in
theorem Same_eq (a n : Int) (sa sb ha hb : Option Addr) (sn sc sd hn hc hd : Nat) (f g1 g2 : Nat → Int) (w : World) (h1 : SumsAt w sa sn f) (h2 : SumsAt w sb sn f) (h3 : HitsAt w ha hn g1 g2) (h4 : HitsAt w hb hn g1 g2) (m1 : sn ≤ 40) (m2 : hn ≤ 40) :
    Calls Try.prog 12 #[.agg #[.int .i64 a, .int .i64 n, .slice sa sn sc, .slice ha hn hc], .agg #[.int .i64 a, .int .i64 n, .slice sb sn sd, .slice hb hn hd]] w fun e w' => e = .returned (.bool true) ∧ Below w.heap.size w w' := by
  have tw := TwoC.made w a n a n (.slice sa sn sc) (.slice ha hn hc) (.slice sb sn sd) (.slice hb hn hd)
  have hbe : Below w.heap.size w ((w.alloc (.cells #[.int .i64 a, .int .i64 n, .slice sa sn sc, .slice ha hn hc] 27)).alloc (.cells #[.int .i64 a, .int .i64 n, .slice sb sn sd, .slice hb hn hd] 27)) := tw.be
  have S1 := Lib.hid (h1.below hbe)
  have S2 := Lib.hid (h2.below hbe)
  have H3 := Lib.hid (h3.below hbe)
  have H4 := Lib.hid (h4.below hbe)
  have TW := Lib.hid tw
  clear h1 h2 h3 h4 hbe tw
  go_enter Try.func12, Try.ntmps12
  go_wp2_with fail
  generalize (w.alloc (.cells #[.int .i64 a, .int .i64 n, .slice sa sn sc, .slice ha hn hc] 27)).alloc (.cells #[.int .i64 a, .int .i64 n, .slice sb sn sd, .slice hb hn hd] 27) = W at *
  go_loopw [5] (fun i wr => ∃ j : Nat, j ≤ sn ∧ i = .int .i64 (j : Int) ∧ ∃ m, wr = W.drewN m) (fun i _ => sn - (intOf i).toNat)
  case atStart => exact ⟨0, Nat.zero_le _, rfl, 0, rfl⟩
  case round =>
    obtain ⟨j, hj, rfl, m, rfl⟩ := hrel
    by_cases hlt : j < sn
    · obtain ⟨b1, o1, rfl, _, f1⟩ := S1.out (by omega)
      obtain ⟨b2, o2, rfl, _, f2⟩ := S2.out (by omega)
      have d1 : W.cell? ⟨b1, o1 + j, none⟩ = some (.int .i64 (f j)) := f1 j hlt
      have d2 : W.cell? ⟨b2, o2 + j, none⟩ = some (.int .i64 (f j)) := f2 j hlt
      obtain ⟨c0, c1, c2, c3, c4, c5, c6, c7⟩ := TW.out.cells
      clear f1 f2
      generalize f j = z at d1 d2
      go_wp2_with fail
      go_quiet (fail)
      go_wp2_with fail
      go_roundw
      case rel => exact ⟨j + 1, by omega, by go_num, m + nq, rfl⟩
      case measure => simp [intOf]; omega
    · obtain ⟨c0, c1, c2, c3, c4, c5, c6, c7⟩ := TW.out.cells
      go_wp2_with fail
      clear c0 c1 c2 c3 c4 c5 c6 c7
      go_loopw [6] (fun i wr => ∃ j : Nat, j ≤ hn ∧ i = .int .i64 (j : Int) ∧ ∃ m, wr = W.drewN m) (fun i _ => hn - (intOf i).toNat)
      case atStart => exact ⟨0, Nat.zero_le _, rfl, m, rfl⟩
      case round =>
        obtain ⟨q, hq, rfl, m', rfl⟩ := hrel
        by_cases hlt' : q < hn
        · obtain ⟨b1, o1, rfl, _, f1⟩ := H3.out (by omega)
          obtain ⟨b2, o2, rfl, _, f2⟩ := H4.out (by omega)
          obtain ⟨d1, d2⟩ := f1 q hlt'
          obtain ⟨d3, d4⟩ := f2 q hlt'
          obtain ⟨c0, c1, c2, c3, c4, c5, c6, c7⟩ := TW.out.cells
          clear f1 f2
          generalize g1 q = z1 at d1 d3
          generalize g2 q = z2 at d2 d4
          go_wp2_with fail
          go_quiet (fail)
          go_wp2_with fail
          go_roundw
          case rel => exact ⟨q + 1, by omega, by go_num, m' + nq, rfl⟩
          case measure => simp [intOf]; omega
        · obtain ⟨c0, c1, c2, c3, c4, c5, c6, c7⟩ := TW.out.cells
          go_wp2_with fail
          go_ret
          exact ⟨rfl, below_drewN TW.out.be m'⟩
end Go.Proofs.Ytgdcgilhaedbmaa
