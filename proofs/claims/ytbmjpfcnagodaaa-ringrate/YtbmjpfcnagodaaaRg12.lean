/- The contract of ring.Ask, done. WRITTEN BY gen_rg12.py. -/
import Derived.Test.YtbmjpfcnagodaaaRg9
import Derived.Test.YtbmjpfcnagodaaaRg11
import Derived.Deep.DeepCutAuto
import Derived.Deep.RegionWith
-- prune
namespace Go.Proofs.Ytbmjpfcnagodaaa
open Go.ChangeShapes Go.WideShapes Go.ChangeAt Go.RowKit
set_option linter.unusedVariables false

theorem le2 (n : Nat) : n ≤ n + 1 + 1 := by omega
theorem sums_row {w : World} {g B : Nat} {f : Nat → Int} (h : Has w g 3 (rowF .i64 f B)) : SumsAt w (some ⟨g, 0, none⟩) B f := fun _ => ⟨g, 0, rfl, h.lt, fun i hi => by rw [Nat.zero_add, h.cell]; exact rowF_get _ _ _ _ hi⟩
theorem may_turn {l b N M : Int} {sn B : Nat} {f : Nat → Int} (hb : 1 ≤ b) (hB : (B : Int) = b) (hm : MaySums l b N sn f) (hl : 0 ≤ l) (hN : N ≤ M) (hM : 0 ≤ M) : MaySums l b M B (turnV b N M sn f) := by
  have hbn : b.toNat = B := by omega
  refine may_of_cnt hb hB (fun i _ => turn_nn hb hm.len (fun j hj => (hm.each j hj).1) i) (fun i hi h => turn_zero hb i (by omega) h hM) ?_
  rw [← hbn, cnt_turn hb hN (Int.le_refl _)]
  exact cnt_le hb hm hl hN
theorem may_put {l b M m : Int} {B : Nat} {f : Nat → Int} (hb : 1 ≤ b) (hB : (B : Int) = b) (hm : MaySums l b M B f) (hM : 0 ≤ M) (h0 : 0 ≤ m) (hc : cntV b M M B f + m ≤ l) : MaySums l b M B (putF f (M % b).toNat (f (M % b).toNat + m)) := by
  have hbn : b.toNat = B := by omega
  have m0 : 0 ≤ M % b := Int.emod_nonneg _ (by omega)
  have m1 : M % b < b := Int.emod_lt_of_pos _ (by omega)
  have mm : M % b ≤ M := by
    have h1 : b * (M / b) + M % b = M := Int.mul_ediv_add_emod M b
    have h2 : 0 ≤ M / b := Int.ediv_nonneg hM (by omega)
    have h3 : 0 ≤ b * (M / b) := Int.mul_nonneg (by omega) h2
    omega
  refine may_of_cnt hb hB (fun i hi => ?_) (fun i hi h => ?_) ?_
  · have h1 := (hm.each i hi).1
    unfold putF; split
    · rename_i e; subst e; omega
    · exact h1
  · unfold putF; split
    · rename_i e; subst e; omega
    · exact hm.zero i hi h
  · have := cnt_put (m := m) (f := f) hb hM (Int.le_refl M)
    rw [hbn, if_pos (by omega)] at this
    omega
/-- A policy, a cell and the two results, in four new blocks. -/
structure AskAt (w0 : World) (k l v b a n : Int) (x y : Value) (w : World) : Prop where
  pc : PC w0 k l v b a n x y w
  p : Has w w0.heap.size 23 [.int .i64 k, .int .i64 l, .int .i64 v, .int .i64 b]
  rc : Has w (w0.heap.size + 1 + 1) 27 [.int .i64 0, .int .i64 0, .slice none 0 0, .slice none 0 0]
  rv : Has w (w0.heap.size + 1 + 1 + 1) 32 [.bool false, .int .i64 0, .int .i64 0, .int .i64 0]
theorem AskAt.made (w : World) (k l v b a n : Int) (x y : Value) : AskAt w k l v b a n x y ((((w.alloc (.cells #[.int .i64 k, .int .i64 l, .int .i64 v, .int .i64 b] 23)).alloc (.cells #[.int .i64 a, .int .i64 n, x, y] 27)).alloc (.cells #[.int .i64 0, .int .i64 0, .slice none 0 0, .slice none 0 0] 27)).alloc (.cells #[.bool false, .int .i64 0, .int .i64 0, .int .i64 0] 32)) := by
  refine ⟨((PC.made w k l v b a n x y _ _).alloc _).alloc _, (((Has.made w 23 [.int .i64 k, .int .i64 l, .int .i64 v, .int .i64 b]).alloc _).alloc _).alloc _, ?_, ?_⟩
  · refine Has.alloc ?_ _
    have := Has.made ((w.alloc (.cells #[.int .i64 k, .int .i64 l, .int .i64 v, .int .i64 b] 23)).alloc (.cells #[.int .i64 a, .int .i64 n, x, y] 27)) 27 [.int .i64 0, .int .i64 0, .slice none 0 0, .slice none 0 0]
    simpa using this
  · have := Has.made (((w.alloc (.cells #[.int .i64 k, .int .i64 l, .int .i64 v, .int .i64 b] 23)).alloc (.cells #[.int .i64 a, .int .i64 n, x, y] 27)).alloc (.cells #[.int .i64 0, .int .i64 0, .slice none 0 0, .slice none 0 0] 27)) 32 [.bool false, .int .i64 0, .int .i64 0, .int .i64 0]
    simpa using this
theorem AskAt.step {w0 w w' : World} {k l v b a n : Int} {x y : Value} (h : AskAt w0 k l v b a n x y w) (hb : Below w.heap.size w w') : AskAt w0 k l v b a n x y w' :=
  ⟨h.pc.step hb, h.p.step hb, h.rc.step hb, h.rv.step hb⟩
theorem AskAt.res {w0 w : World} {k l v b a n : Int} {x y : Value} (h : AskAt w0 k l v b a n x y w) :
    w.cell? ⟨w0.heap.size + 1 + 1, 0, none⟩ = some (.int .i64 0) ∧ w.cell? ⟨w0.heap.size + 1 + 1, 1, none⟩ = some (.int .i64 0) ∧ w.cell? ⟨w0.heap.size + 1 + 1, 2, none⟩ = some (.slice none 0 0) ∧ w.cell? ⟨w0.heap.size + 1 + 1, 3, none⟩ = some (.slice none 0 0) ∧
    w.cell? ⟨w0.heap.size + 1 + 1 + 1, 0, none⟩ = some (.bool false) ∧ w.cell? ⟨w0.heap.size + 1 + 1 + 1, 1, none⟩ = some (.int .i64 0) ∧ w.cell? ⟨w0.heap.size + 1 + 1 + 1, 2, none⟩ = some (.int .i64 0) ∧ w.cell? ⟨w0.heap.size + 1 + 1 + 1, 3, none⟩ = some (.int .i64 0) ∧
    (∀ i, w.frozen? ⟨w0.heap.size + 1 + 1, i, none⟩ = false) ∧ (∀ i, w.frozen? ⟨w0.heap.size + 1 + 1 + 1, i, none⟩ = false) :=
  ⟨h.rc.cell 0, h.rc.cell 1, h.rc.cell 2, h.rc.cell 3, h.rv.cell 0, h.rv.cell 1, h.rv.cell 2, h.rv.cell 3, h.rc.loose, h.rv.loose⟩
/-- The policy, the turned cell with its sums, the verdict, and the two results. -/
structure AskS (w0 : World) (k l v T : Int) (B : Nat) (f : Nat → Int) (gD gS gV : Nat) (V : List Value) (w : World) : Prop where
  p : Has w w0.heap.size 23 [.int .i64 k, .int .i64 l, .int .i64 v, .int .i64 (B : Int)]
  rc : Has w (w0.heap.size + 1 + 1) 27 [.int .i64 0, .int .i64 0, .slice none 0 0, .slice none 0 0]
  rv : Has w (w0.heap.size + 1 + 1 + 1) 32 [.bool false, .int .i64 0, .int .i64 0, .int .i64 0]
  d : Has w gD 27 [.int .i64 T, .int .i64 0, .slice (some ⟨gS, 0, none⟩) B B, .slice none 0 0]
  s : Has w gS 3 (rowF .i64 f B)
  v : Has w gV 32 V
  n1 : gD ≠ gS
  n2 : gD ≠ gV
  n3 : gS ≠ gV
  b1 : w0.heap.size + 1 + 1 + 1 < gD
  b2 : w0.heap.size + 1 + 1 + 1 < gS
  b3 : w0.heap.size + 1 + 1 + 1 < gV
  be : Below w0.heap.size w0 w
section
variable {w0 w w' : World} {k l v T : Int} {B : Nat} {f : Nat → Int} {gD gS gV : Nat} {V : List Value}
theorem AskS.step (h : AskS w0 k l v T B f gD gS gV V w) (hb : Below w.heap.size w w') : AskS w0 k l v T B f gD gS gV V w' :=
  ⟨h.p.step hb, h.rc.step hb, h.rv.step hb, h.d.step hb, h.s.step hb, h.v.step hb, h.n1, h.n2, h.n3, h.b1, h.b2, h.b3, h.be.trans (hb.mono h.be.size)⟩
theorem AskS.drew (h : AskS w0 k l v T B f gD gS gV V w) : AskS w0 k l v T B f gD gS gV V w.drew := h.step (Below.refl _ _).drew
theorem AskS.putV (h : AskS w0 k l v T B f gD gS gV V w) (i : Nat) (u : Value) : AskS w0 k l v T B f gD gS gV (V.set i u) (w.setCell ⟨gV, i, none⟩ u) := by
  have q1 := h.b1
  have q2 := h.b2
  have q3 := h.b3
  exact ⟨h.p.apart (p := ⟨gV, i, none⟩) (show w0.heap.size ≠ gV by omega) u, h.rc.apart (p := ⟨gV, i, none⟩) (show w0.heap.size + 1 + 1 ≠ gV by omega) u, h.rv.apart (p := ⟨gV, i, none⟩) (show w0.heap.size + 1 + 1 + 1 ≠ gV by omega) u, h.d.apart (p := ⟨gV, i, none⟩) (show gD ≠ gV from h.n2) u, h.s.apart (p := ⟨gV, i, none⟩) (show gS ≠ gV from h.n3) u, h.v.store i u, h.n1, h.n2, h.n3, q1, q2, q3, h.be.setCell (p := ⟨gV, i, none⟩) (show w0.heap.size ≤ gV by omega) u⟩
theorem AskS.putS (h : AskS w0 k l v T B f gD gS gV V w) (j : Nat) (u : Int) : AskS w0 k l v T B (putF f j u) gD gS gV V (w.setCell ⟨gS, j, none⟩ (.int .i64 u)) := by
  have q1 := h.b1
  have q2 := h.b2
  have q3 := h.b3
  have hs := h.s.store j (.int .i64 u)
  rw [rowF_set] at hs
  exact ⟨h.p.apart (p := ⟨gS, j, none⟩) (show w0.heap.size ≠ gS by omega) _, h.rc.apart (p := ⟨gS, j, none⟩) (show w0.heap.size + 1 + 1 ≠ gS by omega) _, h.rv.apart (p := ⟨gS, j, none⟩) (show w0.heap.size + 1 + 1 + 1 ≠ gS by omega) _, h.d.apart (p := ⟨gS, j, none⟩) (show gD ≠ gS from h.n1) _, hs, h.v.apart (p := ⟨gS, j, none⟩) (show gV ≠ gS from Ne.symm h.n3) _, h.n1, h.n2, h.n3, q1, q2, q3, h.be.setCell (p := ⟨gS, j, none⟩) (show w0.heap.size ≤ gS by omega) _⟩
theorem AskS.eight (h : AskS w0 k l v T B f gD gS gV V w) : (w.cell? ⟨w0.heap.size, 0, none⟩ = some (.int .i64 k) ∧ w.cell? ⟨w0.heap.size, 1, none⟩ = some (.int .i64 l) ∧ w.cell? ⟨w0.heap.size, 2, none⟩ = some (.int .i64 v) ∧ w.cell? ⟨w0.heap.size, 3, none⟩ = some (.int .i64 (B : Int))) ∧ (w.cell? ⟨gD, 0, none⟩ = some (.int .i64 T) ∧ w.cell? ⟨gD, 1, none⟩ = some (.int .i64 0) ∧ w.cell? ⟨gD, 2, none⟩ = some (.slice (some ⟨gS, 0, none⟩) B B) ∧ w.cell? ⟨gD, 3, none⟩ = some (.slice none 0 0)) := ⟨h.p.four, h.d.four⟩
theorem AskS.row (h : AskS w0 k l v T B f gD gS gV V w) : SumsAt w (some ⟨gS, 0, none⟩) B f := sums_row h.s
theorem AskS.res (h : AskS w0 k l v T B f gD gS gV V w) :
    w.cell? ⟨w0.heap.size + 1 + 1, 0, none⟩ = some (.int .i64 0) ∧ w.cell? ⟨w0.heap.size + 1 + 1, 1, none⟩ = some (.int .i64 0) ∧ w.cell? ⟨w0.heap.size + 1 + 1, 2, none⟩ = some (.slice none 0 0) ∧ w.cell? ⟨w0.heap.size + 1 + 1, 3, none⟩ = some (.slice none 0 0) ∧
    w.cell? ⟨w0.heap.size + 1 + 1 + 1, 0, none⟩ = some (.bool false) ∧ w.cell? ⟨w0.heap.size + 1 + 1 + 1, 1, none⟩ = some (.int .i64 0) ∧ w.cell? ⟨w0.heap.size + 1 + 1 + 1, 2, none⟩ = some (.int .i64 0) ∧ w.cell? ⟨w0.heap.size + 1 + 1 + 1, 3, none⟩ = some (.int .i64 0) ∧
    (∀ i, w.frozen? ⟨w0.heap.size + 1 + 1, i, none⟩ = false) ∧ (∀ i, w.frozen? ⟨w0.heap.size + 1 + 1 + 1, i, none⟩ = false) :=
  ⟨h.rc.cell 0, h.rc.cell 1, h.rc.cell 2, h.rc.cell 3, h.rv.cell 0, h.rv.cell 1, h.rv.cell 2, h.rv.cell 3, h.rc.loose, h.rv.loose⟩
end
/-- Behind turned and the verdict's own block. -/
theorem AskAt.toS {w0 w w2 : World} {k l v a n T : Int} {B : Nat} {x y : Value} {f : Nat → Int} {gS : Nat} (h : AskAt w0 k l v (B : Int) a n x y w) (hb : Below w.heap.size w w2) (hg : w.heap.size ≤ gS) (hs : Has w2 gS 3 (rowF .i64 f B)) :
    AskS w0 k l v T B f w2.heap.size gS (w2.heap.size + 1) [.bool false, .int .i64 0, .int .i64 2199023255552, .int .i64 0] ((w2.alloc (.cells #[.int .i64 T, .int .i64 0, .slice (some ⟨gS, 0, none⟩) B B, .slice none 0 0] 27)).alloc (.cells #[.bool false, .int .i64 0, .int .i64 2199023255552, .int .i64 0] 32)) := by
  have q := h.step hb
  have lt := q.rv.lt
  have l2 := hs.lt
  have l3 := h.rv.lt
  have bt : Below w2.heap.size w2 ((w2.alloc (.cells #[.int .i64 T, .int .i64 0, .slice (some ⟨gS, 0, none⟩) B B, .slice none 0 0] 27)).alloc (.cells #[.bool false, .int .i64 0, .int .i64 2199023255552, .int .i64 0] 32)) := ((Below.refl _ _).alloc (Nat.le_refl _) _).alloc (by simp) _
  exact ⟨q.p.step bt, q.rc.step bt, q.rv.step bt, made1 w2 27 [.int .i64 T, .int .i64 0, .slice (some ⟨gS, 0, none⟩) B B, .slice none 0 0] _, hs.step bt, made2 w2 32 27 [.bool false, .int .i64 0, .int .i64 2199023255552, .int .i64 0] _, by omega, by omega, by omega, by omega, by omega, by omega, q.pc.be.trans (bt.mono q.pc.be.size)⟩
/-- What ring.Ask tells. -/
def RTold (T : Int) (B : Nat) (f : Nat → Int) (al : Bool) (rm rt rs : Int) (w : World) (e : Ending) (w' : World) : Prop :=
  ∃ gS, e = .returned (.tuple #[.agg #[.int .i64 T, .int .i64 0, .slice (some ⟨gS, 0, none⟩) B B, .slice none 0 0], .agg #[.bool al, .int .i64 rm, .int .i64 rt, .int .i64 rs]]) ∧ w.heap.size ≤ gS ∧ Has w' gS 3 (rowF .i64 f B) ∧ Below w.heap.size w w'
theorem has_drew {w : World} {g : Nat} {t : TypeId} {l : List Value} (h : Has w g t l) : Has w.drew g t l := h

set_option maxRecDepth 100000 in
set_option maxHeartbeats 4000000 in
theorem Ask_al (k l v sl a t m T : Int) (sa ha : Option Addr) (sn sc hc B : Nat) (f : Nat → Int) (w : World) (h : RP k l v (B : Int) sl) (a1 : 0 ≤ a) (a2 : a ≤ 1099511627776) (hm : MaySums l (B : Int) (a / sl) sn f) (hf : SumsAt w sa sn f) (t1 : 0 ≤ t) (t2 : t ≤ 1099511627776) (m1 : 1 ≤ m) (m2 : m ≤ 1048576) (hT : tmax t a = T) (hq : cntV (B : Int) (T / sl) (T / sl) B (turnV (B : Int) (a / sl) (T / sl) sn f) + m ≤ l) :
    Calls Try.prog 10 #[.agg #[.int .i64 k, .int .i64 l, .int .i64 v, .int .i64 (B : Int)], .agg #[.int .i64 a, .int .i64 0, .slice sa sn sc, .slice ha 0 hc], .int .i64 t, .int .i64 m] w (RTold T B (putF (turnV (B : Int) (a / sl) (T / sl) sn f) (T / sl % (B : Int)).toNat ((turnV (B : Int) (a / sl) (T / sl) sn f) (T / sl % (B : Int)).toNat + m)) true (l - cntV (B : Int) (T / sl) (T / sl) B (putF (turnV (B : Int) (a / sl) (T / sl) sn f) (T / sl % (B : Int)).toNat ((turnV (B : Int) (a / sl) (T / sl) sn f) (T / sl % (B : Int)).toNat + m))) (0) (waitV (fun q => cntV (B : Int) (T / sl) q B (putF (turnV (B : Int) (a / sl) (T / sl) sn f) (T / sl % (B : Int)).toNat ((turnV (B : Int) (a / sl) (T / sl) sn f) (T / sl % (B : Int)).toNat + m))) sl (T / sl) (B : Int) T 0) w) := by
  obtain ⟨l1, l2, v1, v2, b1, b2, s1, s2, _⟩ := h.bd
  obtain ⟨d0, d1⟩ := div_bd a1 s1
  have tb : a ≤ T ∧ T ≤ 1099511627776 := by rw [← hT]; unfold tmax; split <;> omega
  have tmm : (t < a ∧ T = a) ∨ (a ≤ t ∧ T = t) := by rw [← hT]; unfold tmax; split <;> omega
  obtain ⟨tb1, tb2⟩ := tb
  have hdt : a / sl ≤ T / sl := Int.ediv_le_ediv (by omega) tb1
  obtain ⟨M0, M1⟩ := div_bd (show 0 ≤ T by omega) s1
  have mt := may_turn (B := B) b1 rfl hm (show 0 ≤ l by omega) hdt M0
  have MK := Lib.hid (fun u (hu : Below w.heap.size w u) => May_yes k l v (B : Int) sl a sa ha sn sc hc f u h a1 a2 hm (hf.below hu))
  have TK := Lib.hid (fun u => isTick_yes t u t1 t2)
  have WK := Lib.hid (fun u => Weighs_yes m u m1 m2)
  have TU := Lib.hid (fun u (hu : Below w.heap.size w u) => turned_any k l v sl a T sa ha sn sc hc B f u h a1 a2 tb1 tb2 hm (hf.below hu))
  have hml : m ≤ l := by
    have := cnt_nn (N := T / sl) (X := T / sl) b1 mt.len (fun i hi => (mt.each i hi).1)
    omega
  have F1 := Lib.hid (fun g u (hu : SumsAt u (some ⟨g, 0, none⟩) B (turnV (B : Int) (a / sl) (T / sl) sn f)) => fits_any k l v (B : Int) sl T (l - m) (some ⟨g, 0, none⟩) none B B 0 (turnV (B : Int) (a / sl) (T / sl) sn f) u h (by omega) tb2 mt hu (by omega) (by omega))
  obtain ⟨w10, w11, w12⟩ := wait_nn (C := fun q => cntV (B : Int) (T / sl) q B (turnV (B : Int) (a / sl) (T / sl) sn f)) (most := l - m) s1 s2 (show 0 ≤ T by omega) b1 b2
  have mf : MaySums l (B : Int) (T / sl) B (putF (turnV (B : Int) (a / sl) (T / sl) sn f) (T / sl % (B : Int)).toNat ((turnV (B : Int) (a / sl) (T / sl) sn f) (T / sl % (B : Int)).toNat + m)) := may_put b1 rfl mt M0 (by omega) hq
  have TT := Lib.hid (fun g u (hu : SumsAt u (some ⟨g, 0, none⟩) B (putF (turnV (B : Int) (a / sl) (T / sl) sn f) (T / sl % (B : Int)).toNat ((turnV (B : Int) (a / sl) (T / sl) sn f) (T / sl % (B : Int)).toNat + m))) => by
    have := total_any k l v (B : Int) sl T 0 T (some ⟨g, 0, none⟩) none B B 0 0 (putF (turnV (B : Int) (a / sl) (T / sl) sn f) (T / sl % (B : Int)).toNat ((turnV (B : Int) (a / sl) (T / sl) sn f) (T / sl % (B : Int)).toNat + m)) u h (by omega) tb2 rfl mf.len hu (mf.bd l2)
    rw [counts_eq s1 b1 M0 (Int.le_refl _) mf] at this
    exact this)
  have F2 := Lib.hid (fun g u (hu : SumsAt u (some ⟨g, 0, none⟩) B (putF (turnV (B : Int) (a / sl) (T / sl) sn f) (T / sl % (B : Int)).toNat ((turnV (B : Int) (a / sl) (T / sl) sn f) (T / sl % (B : Int)).toNat + m))) => fits_any k l v (B : Int) sl T 0 (some ⟨g, 0, none⟩) none B B 0 (putF (turnV (B : Int) (a / sl) (T / sl) sn f) (T / sl % (B : Int)).toNat ((turnV (B : Int) (a / sl) (T / sl) sn f) (T / sl % (B : Int)).toNat + m)) u h (by omega) tb2 mf hu (by omega) (by omega))
  obtain ⟨w20, w21, w22⟩ := wait_nn (C := fun q => cntV (B : Int) (T / sl) q B (putF (turnV (B : Int) (a / sl) (T / sl) sn f) (T / sl % (B : Int)).toNat ((turnV (B : Int) (a / sl) (T / sl) sn f) (T / sl % (B : Int)).toNat + m))) (most := 0) s1 s2 (show 0 ≤ T by omega) b1 b2
  have c0 := cnt_nn (N := T / sl) (X := T / sl) b1 mf.len (fun i hi => (mf.each i hi).1)
  have c1 := cnt_le (X := T / sl) b1 mf (show 0 ≤ l by omega) (Int.le_refl _)
  have PL := Lib.hid (fun u => place_any k l v (B : Int) sl T u h (by omega) (by omega))
  have p0 : 0 ≤ T / sl % (B : Int) := Int.emod_nonneg _ (by omega)
  have p1 : T / sl % (B : Int) < (B : Int) := Int.emod_lt_of_pos _ (by omega)
  obtain ⟨r, hr⟩ : ∃ r : Nat, T / sl % (B : Int) = (r : Int) := ⟨(T / sl % (B : Int)).toNat, by omega⟩
  have hrr : (T / sl % (B : Int)).toNat = r := by omega
  have B0 : (0 : Int) ≤ (r : Int) := by omega
  have B1 : (r : Int) < (B : Int) := by omega
  have B2 : r < B := by omega
  rw [hr] at PL
  rw [hrr] at TT F2 c0 c1 w20 w21 w22 ⊢
  have x0 := (mt.each r B2).1
  have x1 := (mt.each r B2).2.1
  clear p0 p1 hr hrr
  clear mt mf
  generalize hf0 : (turnV (B : Int) (a / sl) (T / sl) sn f) = f0 at *
  clear hf0
  generalize hff : putF f0 r (f0 r + m) = ff at *
  have HFF := Lib.hid hff
  clear hff
  generalize waitV (fun q => cntV (B : Int) (T / sl) q B f0) sl (T / sl) (B : Int) T (l - m) = X1 at *
  generalize waitV (fun q => cntV (B : Int) (T / sl) q B ff) sl (T / sl) (B : Int) T 0 = X2 at *
  have X10 : X1 = 0 := w12.2 (by show _ ≤ _; omega)
  subst X10
  clear w22 w12
  generalize cntV (B : Int) (T / sl) (T / sl) B ff = n at *
  have e1 : IntKind.i64.wrap (l - n) = l - n := wrap_i (by omega) (by omega)
  have e2 : IntKind.i64.wrap (T + X2 - T) = X2 := by rw [show T + X2 - T = X2 by omega]; exact wrap_i (by omega) (by omega)
  have e3 : IntKind.i64.wrap (T + 0 - T) = 0 := by rw [show T + 0 - T = 0 by omega]; exact wrap_i (by omega) (by omega)
  have e5 : IntKind.i64.wrap (f0 r + m) = f0 r + m := wrap_i (by omega) (by omega)
  have e4 : IntKind.i64.wrap (l - m) = l - m := wrap_i (by omega) (by omega)
  clear h hm hf hT
  have HP := Lib.hid (AskAt.made w k l v (B : Int) a 0 (.slice sa sn sc) (.slice ha 0 hc))
  go_enter Try.func10, Try.ntmps10
  go_wp2_with fail
  refine (MK.out _ HP.out.pc.be).mono ?_; rintro e w1 ⟨rfl, hb⟩
  have HQ := Lib.hid (HP.out.step hb)
  clear hb HP MK
  obtain ⟨z0, z1, z2, z3, z4, z5, z6, z7⟩ := HQ.out.pc.eight
  go_wp2_with fail
  refine (TK.out _).mono ?_; rintro e w' ⟨rfl, rfl⟩
  go_wp2_with fail
  refine (WK.out _).mono ?_; rintro e w' ⟨rfl, rfl⟩
  go_upto_region 3 with (fail)
  go_cut [10] (fun s10 wx => ∃ gS w2, s10 = .pointer (some ⟨w2.heap.size, 0, none⟩) ∧ wx = w2.alloc (.cells #[.int .i64 T, .int .i64 0, .slice (some ⟨gS, 0, none⟩) B B, .slice none 0 0] 27) ∧ Below w1.heap.size w1 w2 ∧ w1.heap.size ≤ gS ∧ Has w2 gS 3 (rowF .i64 f0 B))
  case first =>
    rcases tmm with ⟨q1, q2⟩ | ⟨q1, q2⟩
    · rw [q2] at TU
      go_upto_region 4 with (fail)
      refine (TU.out _ HQ.out.pc.be).mono ?_; rintro e w2 ⟨gS, rfl, hg, hs, hb⟩
      have KK := Lib.hid (And.intro hb (And.intro hg hs))
      clear hg hs hb
      go_upto_region 4 with (fail)
      all_goals (go_meet; exact ⟨gS, w2, rfl, by rw [q2], KK.out.1, KK.out.2.1, KK.out.2.2⟩)
    · rw [q2] at TU
      go_upto_region 4 with (fail)
      refine (TU.out _ HQ.out.pc.be).mono ?_; rintro e w2 ⟨gS, rfl, hg, hs, hb⟩
      have KK := Lib.hid (And.intro hb (And.intro hg hs))
      clear hg hs hb
      go_upto_region 4 with (fail)
      all_goals (go_meet; exact ⟨gS, w2, rfl, by rw [q2], KK.out.1, KK.out.2.1, KK.out.2.2⟩)
  case rest =>
  obtain ⟨gS, w2, rfl, rfl, hb, hg, hs⟩ := hcut
  have hz := AskAt.toS (T := T) HQ.out hb hg hs
  clear hb hg hs HQ TU tmm z0 z1 z2 z3 z4 z5 z6 z7
  go_upto_region 5 with (fail)
  generalize hw : (w2.alloc (.cells #[.int .i64 T, .int .i64 0, .slice (some ⟨gS, 0, none⟩) B B, .slice none 0 0] 27)).alloc (.cells #[.bool false, .int .i64 0, .int .i64 2199023255552, .int .i64 0] 32) = wz at hz ⊢
  clear hw
  generalize w2.heap.size + 1 = gV at hz ⊢
  generalize w2.heap.size = gD at hz ⊢
  have H0 := Lib.hid hz
  clear hz
  obtain ⟨⟨j0, j1, j2, j3⟩, j4, j5, j6, j7⟩ := H0.out.eight
  obtain ⟨u0, u1, u2, u3⟩ := H0.out.v.four
  have u4 := H0.out.v.loose
  go_upto_region 6 with (fail)
  clear j0 j1 j2 j3 j4 j5 j6 j7 u0 u1 u2 u3 u4
  go_cut [] (fun wx => AskS w k l v T B f0 gD gS gV [.bool false, .int .i64 0, .int .i64 0, .int .i64 0] wx)
  case first =>
    go_region_held3 (fun w' => (w'.cell? ⟨w.heap.size, 0, none⟩ = some (.int .i64 k) ∧ w'.cell? ⟨w.heap.size, 1, none⟩ = some (.int .i64 l) ∧ w'.cell? ⟨w.heap.size, 2, none⟩ = some (.int .i64 v) ∧ w'.cell? ⟨w.heap.size, 3, none⟩ = some (.int .i64 (B : Int))) ∧ (w'.cell? ⟨gD, 0, none⟩ = some (.int .i64 T) ∧ w'.cell? ⟨gD, 1, none⟩ = some (.int .i64 0) ∧ w'.cell? ⟨gD, 2, none⟩ = some (.slice (some ⟨gS, 0, none⟩) B B) ∧ w'.cell? ⟨gD, 3, none⟩ = some (.slice none 0 0))) (first | (with_reducible exact H0.out.eight) | (with_reducible exact H0.out.drew.eight) | (with_reducible exact H1.out.eight) | (with_reducible exact (H1.out.putV _ _).eight) | (with_reducible exact (H1.out.putS _ _).eight) | go_keep) (first | (go_at_call 24; (with_reducible refine (F1.out gS _ H0.out.drew.row).mono ?_); rintro e w1 ⟨rfl, hb⟩; have H1 := Lib.hid (H0.out.drew.step hb); have u4 := H1.out.v.loose; obtain ⟨u0, u1, u2, u3⟩ := H1.out.v.four; clear hb))
    all_goals (go_upto_region 7 with (fail); go_meet; exact H1.out.putV 2 (.int .i64 0))
  case rest =>
  have H2 := Lib.hid hcut
  clear hcut H0 F1
  obtain ⟨⟨j0, j1, j2, j3⟩, j4, j5, j6, j7⟩ := H2.out.eight
  obtain ⟨u0, u1, u2, u3⟩ := H2.out.v.four
  have u4 := H2.out.v.loose
  go_upto_region 9 with (fail)
  clear j0 j1 j2 j3 j4 j5 j6 j7 u0 u1 u2 u3 u4
  have hz := H2.out.putV 0 (.bool true)
  replace hz : AskS w k l v T B f0 gD gS gV [.bool true, .int .i64 0, .int .i64 0, .int .i64 0] (wc.setCell ⟨gV, 0, none⟩ (.bool true)) := hz
  generalize wc.setCell ⟨gV, 0, none⟩ (.bool true) = wy at hz ⊢
  have H3 := Lib.hid hz
  clear hz H2
  go_cut [] (fun wx => AskS w k l v T B ff gD gS gV [.bool true, .int .i64 0, .int .i64 0, .int .i64 0] wx)
  case first =>
    obtain ⟨⟨j0, j1, j2, j3⟩, j4, j5, j6, j7⟩ := H3.out.eight
    go_region_with (first | (go_at_call 25; (refine (PL.out _).mono ?_); rintro e wp ⟨rfl, hb⟩; have H1 := Lib.hid (H3.out.drew.step hb); clear j0 j1 j2 j3 j4 j5 j6 j7; obtain ⟨⟨j0, j1, j2, j3⟩, j4, j5, j6, j7⟩ := H1.out.eight; have s0 : wp.cell? ⟨gS, r, none⟩ = some (.int .i64 (f0 r)) := (H1.out.s.cell r).trans (rowF_get _ _ _ _ B2); have s1 := H1.out.s.loose; clear hb))
    all_goals (go_upto_region 10 with (fail); go_meet; (have q := H1.out.putS r (f0 r + m)); rw [HFF.out] at q; exact q)
  case rest =>
  have H4 := Lib.hid hcut
  clear hcut H3
  go_upto_region 10 with (fail)
  go_cut [] (fun wx => AskS w k l v T B ff gD gS gV [.bool true, .int .i64 (l - n), .int .i64 0, .int .i64 0] wx)
  case first =>
    go_region_held3 (fun w' => (w'.cell? ⟨w.heap.size, 0, none⟩ = some (.int .i64 k) ∧ w'.cell? ⟨w.heap.size, 1, none⟩ = some (.int .i64 l) ∧ w'.cell? ⟨w.heap.size, 2, none⟩ = some (.int .i64 v) ∧ w'.cell? ⟨w.heap.size, 3, none⟩ = some (.int .i64 (B : Int))) ∧ (w'.cell? ⟨gD, 0, none⟩ = some (.int .i64 T) ∧ w'.cell? ⟨gD, 1, none⟩ = some (.int .i64 0) ∧ w'.cell? ⟨gD, 2, none⟩ = some (.slice (some ⟨gS, 0, none⟩) B B) ∧ w'.cell? ⟨gD, 3, none⟩ = some (.slice none 0 0))) (first | (with_reducible exact H4.out.eight) | (with_reducible exact H4.out.drew.eight) | (with_reducible exact H5.out.eight) | (with_reducible exact (H5.out.putV _ _).eight) | (with_reducible exact (H5.out.putS _ _).eight) | go_keep) (first | (go_at_call 26; (with_reducible refine (TT.out gS _ H4.out.drew.row).mono ?_); rintro e w5 ⟨rfl, hb⟩; have H5 := Lib.hid (H4.out.drew.step hb); have u4 := H5.out.v.loose; obtain ⟨u0, u1, u2, u3⟩ := H5.out.v.four; clear hb))
    all_goals (go_upto_region 11 with (fail); go_meet; exact H5.out.putV 1 (.int .i64 (l - n)))
  case rest =>
  have H6 := Lib.hid hcut
  clear hcut H4 TT
  go_upto_region 11 with (fail)
  go_cut [] (fun wx => AskS w k l v T B ff gD gS gV [.bool true, .int .i64 (l - n), .int .i64 0, .int .i64 X2] wx)
  case first =>
    go_region_held3 (fun w' => (w'.cell? ⟨w.heap.size, 0, none⟩ = some (.int .i64 k) ∧ w'.cell? ⟨w.heap.size, 1, none⟩ = some (.int .i64 l) ∧ w'.cell? ⟨w.heap.size, 2, none⟩ = some (.int .i64 v) ∧ w'.cell? ⟨w.heap.size, 3, none⟩ = some (.int .i64 (B : Int))) ∧ (w'.cell? ⟨gD, 0, none⟩ = some (.int .i64 T) ∧ w'.cell? ⟨gD, 1, none⟩ = some (.int .i64 0) ∧ w'.cell? ⟨gD, 2, none⟩ = some (.slice (some ⟨gS, 0, none⟩) B B) ∧ w'.cell? ⟨gD, 3, none⟩ = some (.slice none 0 0))) (first | (with_reducible exact H6.out.eight) | (with_reducible exact H6.out.drew.eight) | (with_reducible exact H7.out.eight) | (with_reducible exact (H7.out.putV _ _).eight) | (with_reducible exact (H7.out.putS _ _).eight) | go_keep) (first | (go_at_call 24; (with_reducible refine (F2.out gS _ H6.out.drew.row).mono ?_); rintro e w7 ⟨rfl, hb⟩; have H7 := Lib.hid (H6.out.drew.step hb); have u4 := H7.out.v.loose; obtain ⟨u0, u1, u2, u3⟩ := H7.out.v.four; clear hb))
    all_goals (go_upto_region 12 with (fail); go_meet; exact H7.out.putV 3 (.int .i64 X2))
  case rest =>
  have H8 := Lib.hid hcut
  clear hcut H6 F2
  go_upto_region 12 with (fail)
  obtain ⟨⟨j0, j1, j2, j3⟩, j4, j5, j6, j7⟩ := H8.out.eight
  obtain ⟨u0, u1, u2, u3⟩ := H8.out.v.four
  obtain ⟨r0, r1, r2, r3, r4, r5, r6, r7, r8, r9⟩ := H8.out.res
  have g0 : gD ≠ w.heap.size + 1 + 1 := by have := H8.out.b1; omega
  have g1 : gD ≠ w.heap.size + 1 + 1 + 1 := by have := H8.out.b1; omega
  have g2 : gV ≠ w.heap.size + 1 + 1 := by have := H8.out.b3; omega
  have g3 : gV ≠ w.heap.size + 1 + 1 + 1 := by have := H8.out.b3; omega
  have g4 : gS ≠ w.heap.size + 1 + 1 := by have := H8.out.b2; omega
  have g5 : gS ≠ w.heap.size + 1 + 1 + 1 := by have := H8.out.b2; omega
  go_region
  all_goals go_wp2_with fail
  all_goals refine bodyPost_ret (v := .tuple #[.agg #[.int .i64 T, .int .i64 0, .slice (some ⟨gS, 0, none⟩) B B, .slice none 0 0], .agg #[.bool true, .int .i64 (l - n), .int .i64 0, .int .i64 X2]]) (by simp [results, Try.results10, go_sem, r0, r1, r2, r3, r4, r5, r6, r7]) rfl ⟨gS, rfl, by have := H8.out.b2; omega, ?_, ?_⟩
  all_goals repeat (first | with_reducible exact H8.out.be | with_reducible exact H8.out.s | with_reducible (refine Below.setCell ?_ (le3 _) _) | with_reducible (refine Below.setCell ?_ (le2 _) _) | with_reducible refine Below.drew ?_ | with_reducible refine has_drew ?_ | with_reducible (refine Has.apart ?_ g4 _) | with_reducible (refine Has.apart ?_ g5 _))

set_option maxRecDepth 100000 in
set_option maxHeartbeats 4000000 in
theorem Ask_re (k l v sl a t m T : Int) (sa ha : Option Addr) (sn sc hc B : Nat) (f : Nat → Int) (w : World) (h : RP k l v (B : Int) sl) (a1 : 0 ≤ a) (a2 : a ≤ 1099511627776) (hm : MaySums l (B : Int) (a / sl) sn f) (hf : SumsAt w sa sn f) (t1 : 0 ≤ t) (t2 : t ≤ 1099511627776) (m1 : 1 ≤ m) (m2 : m ≤ 1048576) (hT : tmax t a = T) (hl : m ≤ l) (hq : l < cntV (B : Int) (T / sl) (T / sl) B (turnV (B : Int) (a / sl) (T / sl) sn f) + m) :
    Calls Try.prog 10 #[.agg #[.int .i64 k, .int .i64 l, .int .i64 v, .int .i64 (B : Int)], .agg #[.int .i64 a, .int .i64 0, .slice sa sn sc, .slice ha 0 hc], .int .i64 t, .int .i64 m] w (RTold T B (turnV (B : Int) (a / sl) (T / sl) sn f) false (l - cntV (B : Int) (T / sl) (T / sl) B (turnV (B : Int) (a / sl) (T / sl) sn f)) (waitV (fun q => cntV (B : Int) (T / sl) q B (turnV (B : Int) (a / sl) (T / sl) sn f)) sl (T / sl) (B : Int) T (l - m)) (waitV (fun q => cntV (B : Int) (T / sl) q B (turnV (B : Int) (a / sl) (T / sl) sn f)) sl (T / sl) (B : Int) T 0) w) := by
  obtain ⟨l1, l2, v1, v2, b1, b2, s1, s2, _⟩ := h.bd
  obtain ⟨d0, d1⟩ := div_bd a1 s1
  have tb : a ≤ T ∧ T ≤ 1099511627776 := by rw [← hT]; unfold tmax; split <;> omega
  have tmm : (t < a ∧ T = a) ∨ (a ≤ t ∧ T = t) := by rw [← hT]; unfold tmax; split <;> omega
  obtain ⟨tb1, tb2⟩ := tb
  have hdt : a / sl ≤ T / sl := Int.ediv_le_ediv (by omega) tb1
  obtain ⟨M0, M1⟩ := div_bd (show 0 ≤ T by omega) s1
  have mt := may_turn (B := B) b1 rfl hm (show 0 ≤ l by omega) hdt M0
  have MK := Lib.hid (fun u (hu : Below w.heap.size w u) => May_yes k l v (B : Int) sl a sa ha sn sc hc f u h a1 a2 hm (hf.below hu))
  have TK := Lib.hid (fun u => isTick_yes t u t1 t2)
  have WK := Lib.hid (fun u => Weighs_yes m u m1 m2)
  have TU := Lib.hid (fun u (hu : Below w.heap.size w u) => turned_any k l v sl a T sa ha sn sc hc B f u h a1 a2 tb1 tb2 hm (hf.below hu))
  have F1 := Lib.hid (fun g u (hu : SumsAt u (some ⟨g, 0, none⟩) B (turnV (B : Int) (a / sl) (T / sl) sn f)) => fits_any k l v (B : Int) sl T (l - m) (some ⟨g, 0, none⟩) none B B 0 (turnV (B : Int) (a / sl) (T / sl) sn f) u h (by omega) tb2 mt hu (by omega) (by omega))
  obtain ⟨w10, w11, w12⟩ := wait_nn (C := fun q => cntV (B : Int) (T / sl) q B (turnV (B : Int) (a / sl) (T / sl) sn f)) (most := l - m) s1 s2 (show 0 ≤ T by omega) b1 b2
  have mf : MaySums l (B : Int) (T / sl) B (turnV (B : Int) (a / sl) (T / sl) sn f) := mt
  have TT := Lib.hid (fun g u (hu : SumsAt u (some ⟨g, 0, none⟩) B (turnV (B : Int) (a / sl) (T / sl) sn f)) => by
    have := total_any k l v (B : Int) sl T 0 T (some ⟨g, 0, none⟩) none B B 0 0 (turnV (B : Int) (a / sl) (T / sl) sn f) u h (by omega) tb2 rfl mf.len hu (mf.bd l2)
    rw [counts_eq s1 b1 M0 (Int.le_refl _) mf] at this
    exact this)
  have F2 := Lib.hid (fun g u (hu : SumsAt u (some ⟨g, 0, none⟩) B (turnV (B : Int) (a / sl) (T / sl) sn f)) => fits_any k l v (B : Int) sl T 0 (some ⟨g, 0, none⟩) none B B 0 (turnV (B : Int) (a / sl) (T / sl) sn f) u h (by omega) tb2 mf hu (by omega) (by omega))
  obtain ⟨w20, w21, w22⟩ := wait_nn (C := fun q => cntV (B : Int) (T / sl) q B (turnV (B : Int) (a / sl) (T / sl) sn f)) (most := 0) s1 s2 (show 0 ≤ T by omega) b1 b2
  have c0 := cnt_nn (N := T / sl) (X := T / sl) b1 mf.len (fun i hi => (mf.each i hi).1)
  have c1 := cnt_le (X := T / sl) b1 mf (show 0 ≤ l by omega) (Int.le_refl _)
  clear mt mf
  generalize hf0 : (turnV (B : Int) (a / sl) (T / sl) sn f) = f0 at *
  clear hf0
  generalize waitV (fun q => cntV (B : Int) (T / sl) q B f0) sl (T / sl) (B : Int) T (l - m) = X1 at *
  generalize waitV (fun q => cntV (B : Int) (T / sl) q B f0) sl (T / sl) (B : Int) T 0 = X2 at *
  have X10 : 0 < X1 := by
    rcases Int.lt_or_eq_of_le w10 with q | q
    · exact q
    · have e := w12.1 q.symm; omega
  clear w22 w12
  generalize cntV (B : Int) (T / sl) (T / sl) B f0 = n at *
  have e1 : IntKind.i64.wrap (l - n) = l - n := wrap_i (by omega) (by omega)
  have e2 : IntKind.i64.wrap (T + X2 - T) = X2 := by rw [show T + X2 - T = X2 by omega]; exact wrap_i (by omega) (by omega)
  have e3 : IntKind.i64.wrap (T + X1 - T) = X1 := by rw [show T + X1 - T = X1 by omega]; exact wrap_i (by omega) (by omega)
  have xz : (X1 == 0) = false := by simp; omega
  have e4 : IntKind.i64.wrap (l - m) = l - m := wrap_i (by omega) (by omega)
  clear h hm hf hT
  have HP := Lib.hid (AskAt.made w k l v (B : Int) a 0 (.slice sa sn sc) (.slice ha 0 hc))
  go_enter Try.func10, Try.ntmps10
  go_wp2_with fail
  refine (MK.out _ HP.out.pc.be).mono ?_; rintro e w1 ⟨rfl, hb⟩
  have HQ := Lib.hid (HP.out.step hb)
  clear hb HP MK
  obtain ⟨z0, z1, z2, z3, z4, z5, z6, z7⟩ := HQ.out.pc.eight
  go_wp2_with fail
  refine (TK.out _).mono ?_; rintro e w' ⟨rfl, rfl⟩
  go_wp2_with fail
  refine (WK.out _).mono ?_; rintro e w' ⟨rfl, rfl⟩
  go_upto_region 3 with (fail)
  go_cut [10] (fun s10 wx => ∃ gS w2, s10 = .pointer (some ⟨w2.heap.size, 0, none⟩) ∧ wx = w2.alloc (.cells #[.int .i64 T, .int .i64 0, .slice (some ⟨gS, 0, none⟩) B B, .slice none 0 0] 27) ∧ Below w1.heap.size w1 w2 ∧ w1.heap.size ≤ gS ∧ Has w2 gS 3 (rowF .i64 f0 B))
  case first =>
    rcases tmm with ⟨q1, q2⟩ | ⟨q1, q2⟩
    · rw [q2] at TU
      go_upto_region 4 with (fail)
      refine (TU.out _ HQ.out.pc.be).mono ?_; rintro e w2 ⟨gS, rfl, hg, hs, hb⟩
      have KK := Lib.hid (And.intro hb (And.intro hg hs))
      clear hg hs hb
      go_upto_region 4 with (fail)
      all_goals (go_meet; exact ⟨gS, w2, rfl, by rw [q2], KK.out.1, KK.out.2.1, KK.out.2.2⟩)
    · rw [q2] at TU
      go_upto_region 4 with (fail)
      refine (TU.out _ HQ.out.pc.be).mono ?_; rintro e w2 ⟨gS, rfl, hg, hs, hb⟩
      have KK := Lib.hid (And.intro hb (And.intro hg hs))
      clear hg hs hb
      go_upto_region 4 with (fail)
      all_goals (go_meet; exact ⟨gS, w2, rfl, by rw [q2], KK.out.1, KK.out.2.1, KK.out.2.2⟩)
  case rest =>
  obtain ⟨gS, w2, rfl, rfl, hb, hg, hs⟩ := hcut
  have hz := AskAt.toS (T := T) HQ.out hb hg hs
  clear hb hg hs HQ TU tmm z0 z1 z2 z3 z4 z5 z6 z7
  go_upto_region 5 with (fail)
  generalize hw : (w2.alloc (.cells #[.int .i64 T, .int .i64 0, .slice (some ⟨gS, 0, none⟩) B B, .slice none 0 0] 27)).alloc (.cells #[.bool false, .int .i64 0, .int .i64 2199023255552, .int .i64 0] 32) = wz at hz ⊢
  clear hw
  generalize w2.heap.size + 1 = gV at hz ⊢
  generalize w2.heap.size = gD at hz ⊢
  have H0 := Lib.hid hz
  clear hz
  obtain ⟨⟨j0, j1, j2, j3⟩, j4, j5, j6, j7⟩ := H0.out.eight
  obtain ⟨u0, u1, u2, u3⟩ := H0.out.v.four
  have u4 := H0.out.v.loose
  go_upto_region 6 with (fail)
  clear j0 j1 j2 j3 j4 j5 j6 j7 u0 u1 u2 u3 u4
  go_cut [] (fun wx => AskS w k l v T B f0 gD gS gV [.bool false, .int .i64 0, .int .i64 X1, .int .i64 0] wx)
  case first =>
    go_region_held3 (fun w' => (w'.cell? ⟨w.heap.size, 0, none⟩ = some (.int .i64 k) ∧ w'.cell? ⟨w.heap.size, 1, none⟩ = some (.int .i64 l) ∧ w'.cell? ⟨w.heap.size, 2, none⟩ = some (.int .i64 v) ∧ w'.cell? ⟨w.heap.size, 3, none⟩ = some (.int .i64 (B : Int))) ∧ (w'.cell? ⟨gD, 0, none⟩ = some (.int .i64 T) ∧ w'.cell? ⟨gD, 1, none⟩ = some (.int .i64 0) ∧ w'.cell? ⟨gD, 2, none⟩ = some (.slice (some ⟨gS, 0, none⟩) B B) ∧ w'.cell? ⟨gD, 3, none⟩ = some (.slice none 0 0))) (first | (with_reducible exact H0.out.eight) | (with_reducible exact H0.out.drew.eight) | (with_reducible exact H1.out.eight) | (with_reducible exact (H1.out.putV _ _).eight) | (with_reducible exact (H1.out.putS _ _).eight) | go_keep) (first | (go_at_call 24; (with_reducible refine (F1.out gS _ H0.out.drew.row).mono ?_); rintro e w1 ⟨rfl, hb⟩; have H1 := Lib.hid (H0.out.drew.step hb); have u4 := H1.out.v.loose; obtain ⟨u0, u1, u2, u3⟩ := H1.out.v.four; clear hb))
    all_goals (go_upto_region 7 with (fail); go_meet; exact H1.out.putV 2 (.int .i64 X1))
  case rest =>
  have H2 := Lib.hid hcut
  clear hcut H0 F1
  obtain ⟨⟨j0, j1, j2, j3⟩, j4, j5, j6, j7⟩ := H2.out.eight
  obtain ⟨u0, u1, u2, u3⟩ := H2.out.v.four
  have u4 := H2.out.v.loose
  go_upto_region 10 with (fail)
  clear j0 j1 j2 j3 j4 j5 j6 j7 u0 u1 u2 u3 u4
  have hz := H2.out.putV 0 (.bool false)
  replace hz : AskS w k l v T B f0 gD gS gV [.bool false, .int .i64 0, .int .i64 X1, .int .i64 0] (wc.setCell ⟨gV, 0, none⟩ (.bool false)) := hz
  generalize wc.setCell ⟨gV, 0, none⟩ (.bool false) = wy at hz ⊢
  have H3 := Lib.hid hz
  clear hz H2
  have H4 := H3
  clear H3
  go_cut [] (fun wx => AskS w k l v T B f0 gD gS gV [.bool false, .int .i64 (l - n), .int .i64 X1, .int .i64 0] wx)
  case first =>
    go_region_held3 (fun w' => (w'.cell? ⟨w.heap.size, 0, none⟩ = some (.int .i64 k) ∧ w'.cell? ⟨w.heap.size, 1, none⟩ = some (.int .i64 l) ∧ w'.cell? ⟨w.heap.size, 2, none⟩ = some (.int .i64 v) ∧ w'.cell? ⟨w.heap.size, 3, none⟩ = some (.int .i64 (B : Int))) ∧ (w'.cell? ⟨gD, 0, none⟩ = some (.int .i64 T) ∧ w'.cell? ⟨gD, 1, none⟩ = some (.int .i64 0) ∧ w'.cell? ⟨gD, 2, none⟩ = some (.slice (some ⟨gS, 0, none⟩) B B) ∧ w'.cell? ⟨gD, 3, none⟩ = some (.slice none 0 0))) (first | (with_reducible exact H4.out.eight) | (with_reducible exact H4.out.drew.eight) | (with_reducible exact H5.out.eight) | (with_reducible exact (H5.out.putV _ _).eight) | (with_reducible exact (H5.out.putS _ _).eight) | go_keep) (first | (go_at_call 26; (with_reducible refine (TT.out gS _ H4.out.drew.row).mono ?_); rintro e w5 ⟨rfl, hb⟩; have H5 := Lib.hid (H4.out.drew.step hb); have u4 := H5.out.v.loose; obtain ⟨u0, u1, u2, u3⟩ := H5.out.v.four; clear hb))
    all_goals (go_upto_region 11 with (fail); go_meet; exact H5.out.putV 1 (.int .i64 (l - n)))
  case rest =>
  have H6 := Lib.hid hcut
  clear hcut H4 TT
  go_upto_region 11 with (fail)
  go_cut [] (fun wx => AskS w k l v T B f0 gD gS gV [.bool false, .int .i64 (l - n), .int .i64 X1, .int .i64 X2] wx)
  case first =>
    go_region_held3 (fun w' => (w'.cell? ⟨w.heap.size, 0, none⟩ = some (.int .i64 k) ∧ w'.cell? ⟨w.heap.size, 1, none⟩ = some (.int .i64 l) ∧ w'.cell? ⟨w.heap.size, 2, none⟩ = some (.int .i64 v) ∧ w'.cell? ⟨w.heap.size, 3, none⟩ = some (.int .i64 (B : Int))) ∧ (w'.cell? ⟨gD, 0, none⟩ = some (.int .i64 T) ∧ w'.cell? ⟨gD, 1, none⟩ = some (.int .i64 0) ∧ w'.cell? ⟨gD, 2, none⟩ = some (.slice (some ⟨gS, 0, none⟩) B B) ∧ w'.cell? ⟨gD, 3, none⟩ = some (.slice none 0 0))) (first | (with_reducible exact H6.out.eight) | (with_reducible exact H6.out.drew.eight) | (with_reducible exact H7.out.eight) | (with_reducible exact (H7.out.putV _ _).eight) | (with_reducible exact (H7.out.putS _ _).eight) | go_keep) (first | (go_at_call 24; (with_reducible refine (F2.out gS _ H6.out.drew.row).mono ?_); rintro e w7 ⟨rfl, hb⟩; have H7 := Lib.hid (H6.out.drew.step hb); have u4 := H7.out.v.loose; obtain ⟨u0, u1, u2, u3⟩ := H7.out.v.four; clear hb))
    all_goals (go_upto_region 12 with (fail); go_meet; exact H7.out.putV 3 (.int .i64 X2))
  case rest =>
  have H8 := Lib.hid hcut
  clear hcut H6 F2
  go_upto_region 12 with (fail)
  obtain ⟨⟨j0, j1, j2, j3⟩, j4, j5, j6, j7⟩ := H8.out.eight
  obtain ⟨u0, u1, u2, u3⟩ := H8.out.v.four
  obtain ⟨r0, r1, r2, r3, r4, r5, r6, r7, r8, r9⟩ := H8.out.res
  have g0 : gD ≠ w.heap.size + 1 + 1 := by have := H8.out.b1; omega
  have g1 : gD ≠ w.heap.size + 1 + 1 + 1 := by have := H8.out.b1; omega
  have g2 : gV ≠ w.heap.size + 1 + 1 := by have := H8.out.b3; omega
  have g3 : gV ≠ w.heap.size + 1 + 1 + 1 := by have := H8.out.b3; omega
  have g4 : gS ≠ w.heap.size + 1 + 1 := by have := H8.out.b2; omega
  have g5 : gS ≠ w.heap.size + 1 + 1 + 1 := by have := H8.out.b2; omega
  go_region
  all_goals go_wp2_with fail
  all_goals refine bodyPost_ret (v := .tuple #[.agg #[.int .i64 T, .int .i64 0, .slice (some ⟨gS, 0, none⟩) B B, .slice none 0 0], .agg #[.bool false, .int .i64 (l - n), .int .i64 X1, .int .i64 X2]]) (by simp [results, Try.results10, go_sem, r0, r1, r2, r3, r4, r5, r6, r7]) rfl ⟨gS, rfl, by have := H8.out.b2; omega, ?_, ?_⟩
  all_goals repeat (first | with_reducible exact H8.out.be | with_reducible exact H8.out.s | with_reducible (refine Below.setCell ?_ (le3 _) _) | with_reducible (refine Below.setCell ?_ (le2 _) _) | with_reducible refine Below.drew ?_ | with_reducible refine has_drew ?_ | with_reducible (refine Has.apart ?_ g4 _) | with_reducible (refine Has.apart ?_ g5 _))

set_option maxRecDepth 100000 in
set_option maxHeartbeats 4000000 in
theorem Ask_nv (k l v sl a t m T : Int) (sa ha : Option Addr) (sn sc hc B : Nat) (f : Nat → Int) (w : World) (h : RP k l v (B : Int) sl) (a1 : 0 ≤ a) (a2 : a ≤ 1099511627776) (hm : MaySums l (B : Int) (a / sl) sn f) (hf : SumsAt w sa sn f) (t1 : 0 ≤ t) (t2 : t ≤ 1099511627776) (m1 : 1 ≤ m) (m2 : m ≤ 1048576) (hT : tmax t a = T) (hl : l < m) :
    Calls Try.prog 10 #[.agg #[.int .i64 k, .int .i64 l, .int .i64 v, .int .i64 (B : Int)], .agg #[.int .i64 a, .int .i64 0, .slice sa sn sc, .slice ha 0 hc], .int .i64 t, .int .i64 m] w (RTold T B (turnV (B : Int) (a / sl) (T / sl) sn f) false (l - cntV (B : Int) (T / sl) (T / sl) B (turnV (B : Int) (a / sl) (T / sl) sn f)) (2199023255552) (waitV (fun q => cntV (B : Int) (T / sl) q B (turnV (B : Int) (a / sl) (T / sl) sn f)) sl (T / sl) (B : Int) T 0) w) := by
  obtain ⟨l1, l2, v1, v2, b1, b2, s1, s2, _⟩ := h.bd
  obtain ⟨d0, d1⟩ := div_bd a1 s1
  have tb : a ≤ T ∧ T ≤ 1099511627776 := by rw [← hT]; unfold tmax; split <;> omega
  have tmm : (t < a ∧ T = a) ∨ (a ≤ t ∧ T = t) := by rw [← hT]; unfold tmax; split <;> omega
  obtain ⟨tb1, tb2⟩ := tb
  have hdt : a / sl ≤ T / sl := Int.ediv_le_ediv (by omega) tb1
  obtain ⟨M0, M1⟩ := div_bd (show 0 ≤ T by omega) s1
  have mt := may_turn (B := B) b1 rfl hm (show 0 ≤ l by omega) hdt M0
  have MK := Lib.hid (fun u (hu : Below w.heap.size w u) => May_yes k l v (B : Int) sl a sa ha sn sc hc f u h a1 a2 hm (hf.below hu))
  have TK := Lib.hid (fun u => isTick_yes t u t1 t2)
  have WK := Lib.hid (fun u => Weighs_yes m u m1 m2)
  have TU := Lib.hid (fun u (hu : Below w.heap.size w u) => turned_any k l v sl a T sa ha sn sc hc B f u h a1 a2 tb1 tb2 hm (hf.below hu))
  have mf : MaySums l (B : Int) (T / sl) B (turnV (B : Int) (a / sl) (T / sl) sn f) := mt
  have TT := Lib.hid (fun g u (hu : SumsAt u (some ⟨g, 0, none⟩) B (turnV (B : Int) (a / sl) (T / sl) sn f)) => by
    have := total_any k l v (B : Int) sl T 0 T (some ⟨g, 0, none⟩) none B B 0 0 (turnV (B : Int) (a / sl) (T / sl) sn f) u h (by omega) tb2 rfl mf.len hu (mf.bd l2)
    rw [counts_eq s1 b1 M0 (Int.le_refl _) mf] at this
    exact this)
  have F2 := Lib.hid (fun g u (hu : SumsAt u (some ⟨g, 0, none⟩) B (turnV (B : Int) (a / sl) (T / sl) sn f)) => fits_any k l v (B : Int) sl T 0 (some ⟨g, 0, none⟩) none B B 0 (turnV (B : Int) (a / sl) (T / sl) sn f) u h (by omega) tb2 mf hu (by omega) (by omega))
  obtain ⟨w20, w21, w22⟩ := wait_nn (C := fun q => cntV (B : Int) (T / sl) q B (turnV (B : Int) (a / sl) (T / sl) sn f)) (most := 0) s1 s2 (show 0 ≤ T by omega) b1 b2
  have c0 := cnt_nn (N := T / sl) (X := T / sl) b1 mf.len (fun i hi => (mf.each i hi).1)
  have c1 := cnt_le (X := T / sl) b1 mf (show 0 ≤ l by omega) (Int.le_refl _)
  clear mt mf
  generalize hf0 : (turnV (B : Int) (a / sl) (T / sl) sn f) = f0 at *
  clear hf0
  generalize waitV (fun q => cntV (B : Int) (T / sl) q B f0) sl (T / sl) (B : Int) T 0 = X2 at *
  clear w22
  generalize cntV (B : Int) (T / sl) (T / sl) B f0 = n at *
  have e1 : IntKind.i64.wrap (l - n) = l - n := wrap_i (by omega) (by omega)
  have e2 : IntKind.i64.wrap (T + X2 - T) = X2 := by rw [show T + X2 - T = X2 by omega]; exact wrap_i (by omega) (by omega)
  clear h hm hf hT
  have HP := Lib.hid (AskAt.made w k l v (B : Int) a 0 (.slice sa sn sc) (.slice ha 0 hc))
  go_enter Try.func10, Try.ntmps10
  go_wp2_with fail
  refine (MK.out _ HP.out.pc.be).mono ?_; rintro e w1 ⟨rfl, hb⟩
  have HQ := Lib.hid (HP.out.step hb)
  clear hb HP MK
  obtain ⟨z0, z1, z2, z3, z4, z5, z6, z7⟩ := HQ.out.pc.eight
  go_wp2_with fail
  refine (TK.out _).mono ?_; rintro e w' ⟨rfl, rfl⟩
  go_wp2_with fail
  refine (WK.out _).mono ?_; rintro e w' ⟨rfl, rfl⟩
  go_upto_region 3 with (fail)
  go_cut [10] (fun s10 wx => ∃ gS w2, s10 = .pointer (some ⟨w2.heap.size, 0, none⟩) ∧ wx = w2.alloc (.cells #[.int .i64 T, .int .i64 0, .slice (some ⟨gS, 0, none⟩) B B, .slice none 0 0] 27) ∧ Below w1.heap.size w1 w2 ∧ w1.heap.size ≤ gS ∧ Has w2 gS 3 (rowF .i64 f0 B))
  case first =>
    rcases tmm with ⟨q1, q2⟩ | ⟨q1, q2⟩
    · rw [q2] at TU
      go_upto_region 4 with (fail)
      refine (TU.out _ HQ.out.pc.be).mono ?_; rintro e w2 ⟨gS, rfl, hg, hs, hb⟩
      have KK := Lib.hid (And.intro hb (And.intro hg hs))
      clear hg hs hb
      go_upto_region 4 with (fail)
      all_goals (go_meet; exact ⟨gS, w2, rfl, by rw [q2], KK.out.1, KK.out.2.1, KK.out.2.2⟩)
    · rw [q2] at TU
      go_upto_region 4 with (fail)
      refine (TU.out _ HQ.out.pc.be).mono ?_; rintro e w2 ⟨gS, rfl, hg, hs, hb⟩
      have KK := Lib.hid (And.intro hb (And.intro hg hs))
      clear hg hs hb
      go_upto_region 4 with (fail)
      all_goals (go_meet; exact ⟨gS, w2, rfl, by rw [q2], KK.out.1, KK.out.2.1, KK.out.2.2⟩)
  case rest =>
  obtain ⟨gS, w2, rfl, rfl, hb, hg, hs⟩ := hcut
  have hz := AskAt.toS (T := T) HQ.out hb hg hs
  clear hb hg hs HQ TU tmm z0 z1 z2 z3 z4 z5 z6 z7
  go_upto_region 5 with (fail)
  generalize hw : (w2.alloc (.cells #[.int .i64 T, .int .i64 0, .slice (some ⟨gS, 0, none⟩) B B, .slice none 0 0] 27)).alloc (.cells #[.bool false, .int .i64 0, .int .i64 2199023255552, .int .i64 0] 32) = wz at hz ⊢
  clear hw
  generalize w2.heap.size + 1 = gV at hz ⊢
  generalize w2.heap.size = gD at hz ⊢
  have H0 := Lib.hid hz
  clear hz
  obtain ⟨⟨j0, j1, j2, j3⟩, j4, j5, j6, j7⟩ := H0.out.eight
  obtain ⟨u0, u1, u2, u3⟩ := H0.out.v.four
  have u4 := H0.out.v.loose
  go_upto_region 10 with (fail)
  clear j0 j1 j2 j3 j4 j5 j6 j7 u0 u1 u2 u3 u4
  have hz := H0.out.putV 0 (.bool false)
  replace hz : AskS w k l v T B f0 gD gS gV [.bool false, .int .i64 0, .int .i64 2199023255552, .int .i64 0] (wz.setCell ⟨gV, 0, none⟩ (.bool false)) := hz
  generalize wz.setCell ⟨gV, 0, none⟩ (.bool false) = wy at hz ⊢
  have H3 := Lib.hid hz
  clear hz H0
  have H4 := H3
  clear H3
  go_cut [] (fun wx => AskS w k l v T B f0 gD gS gV [.bool false, .int .i64 (l - n), .int .i64 2199023255552, .int .i64 0] wx)
  case first =>
    go_region_held3 (fun w' => (w'.cell? ⟨w.heap.size, 0, none⟩ = some (.int .i64 k) ∧ w'.cell? ⟨w.heap.size, 1, none⟩ = some (.int .i64 l) ∧ w'.cell? ⟨w.heap.size, 2, none⟩ = some (.int .i64 v) ∧ w'.cell? ⟨w.heap.size, 3, none⟩ = some (.int .i64 (B : Int))) ∧ (w'.cell? ⟨gD, 0, none⟩ = some (.int .i64 T) ∧ w'.cell? ⟨gD, 1, none⟩ = some (.int .i64 0) ∧ w'.cell? ⟨gD, 2, none⟩ = some (.slice (some ⟨gS, 0, none⟩) B B) ∧ w'.cell? ⟨gD, 3, none⟩ = some (.slice none 0 0))) (first | (with_reducible exact H4.out.eight) | (with_reducible exact H4.out.drew.eight) | (with_reducible exact H5.out.eight) | (with_reducible exact (H5.out.putV _ _).eight) | (with_reducible exact (H5.out.putS _ _).eight) | go_keep) (first | (go_at_call 26; (with_reducible refine (TT.out gS _ H4.out.drew.row).mono ?_); rintro e w5 ⟨rfl, hb⟩; have H5 := Lib.hid (H4.out.drew.step hb); have u4 := H5.out.v.loose; obtain ⟨u0, u1, u2, u3⟩ := H5.out.v.four; clear hb))
    all_goals (go_upto_region 11 with (fail); go_meet; exact H5.out.putV 1 (.int .i64 (l - n)))
  case rest =>
  have H6 := Lib.hid hcut
  clear hcut H4 TT
  go_upto_region 11 with (fail)
  go_cut [] (fun wx => AskS w k l v T B f0 gD gS gV [.bool false, .int .i64 (l - n), .int .i64 2199023255552, .int .i64 X2] wx)
  case first =>
    go_region_held3 (fun w' => (w'.cell? ⟨w.heap.size, 0, none⟩ = some (.int .i64 k) ∧ w'.cell? ⟨w.heap.size, 1, none⟩ = some (.int .i64 l) ∧ w'.cell? ⟨w.heap.size, 2, none⟩ = some (.int .i64 v) ∧ w'.cell? ⟨w.heap.size, 3, none⟩ = some (.int .i64 (B : Int))) ∧ (w'.cell? ⟨gD, 0, none⟩ = some (.int .i64 T) ∧ w'.cell? ⟨gD, 1, none⟩ = some (.int .i64 0) ∧ w'.cell? ⟨gD, 2, none⟩ = some (.slice (some ⟨gS, 0, none⟩) B B) ∧ w'.cell? ⟨gD, 3, none⟩ = some (.slice none 0 0))) (first | (with_reducible exact H6.out.eight) | (with_reducible exact H6.out.drew.eight) | (with_reducible exact H7.out.eight) | (with_reducible exact (H7.out.putV _ _).eight) | (with_reducible exact (H7.out.putS _ _).eight) | go_keep) (first | (go_at_call 24; (with_reducible refine (F2.out gS _ H6.out.drew.row).mono ?_); rintro e w7 ⟨rfl, hb⟩; have H7 := Lib.hid (H6.out.drew.step hb); have u4 := H7.out.v.loose; obtain ⟨u0, u1, u2, u3⟩ := H7.out.v.four; clear hb))
    all_goals (go_upto_region 12 with (fail); go_meet; exact H7.out.putV 3 (.int .i64 X2))
  case rest =>
  have H8 := Lib.hid hcut
  clear hcut H6 F2
  go_upto_region 12 with (fail)
  obtain ⟨⟨j0, j1, j2, j3⟩, j4, j5, j6, j7⟩ := H8.out.eight
  obtain ⟨u0, u1, u2, u3⟩ := H8.out.v.four
  obtain ⟨r0, r1, r2, r3, r4, r5, r6, r7, r8, r9⟩ := H8.out.res
  have g0 : gD ≠ w.heap.size + 1 + 1 := by have := H8.out.b1; omega
  have g1 : gD ≠ w.heap.size + 1 + 1 + 1 := by have := H8.out.b1; omega
  have g2 : gV ≠ w.heap.size + 1 + 1 := by have := H8.out.b3; omega
  have g3 : gV ≠ w.heap.size + 1 + 1 + 1 := by have := H8.out.b3; omega
  have g4 : gS ≠ w.heap.size + 1 + 1 := by have := H8.out.b2; omega
  have g5 : gS ≠ w.heap.size + 1 + 1 + 1 := by have := H8.out.b2; omega
  go_region
  all_goals go_wp2_with fail
  all_goals refine bodyPost_ret (v := .tuple #[.agg #[.int .i64 T, .int .i64 0, .slice (some ⟨gS, 0, none⟩) B B, .slice none 0 0], .agg #[.bool false, .int .i64 (l - n), .int .i64 2199023255552, .int .i64 X2]]) (by simp [results, Try.results10, go_sem, r0, r1, r2, r3, r4, r5, r6, r7]) rfl ⟨gS, rfl, by have := H8.out.b2; omega, ?_, ?_⟩
  all_goals repeat (first | with_reducible exact H8.out.be | with_reducible exact H8.out.s | with_reducible (refine Below.setCell ?_ (le3 _) _) | with_reducible (refine Below.setCell ?_ (le2 _) _) | with_reducible refine Below.drew ?_ | with_reducible refine has_drew ?_ | with_reducible (refine Has.apart ?_ g4 _) | with_reducible (refine Has.apart ?_ g5 _))
end Go.Proofs.Ytbmjpfcnagodaaa
