/- The contract of fixed.Ask, done. WRITTEN BY gen_fx4.py. -/
import Derived.Test.YtdmephlappmmdabFx3
-- prune
namespace Go.Proofs.Ytdmephlappmmdab
open Go.ChangeShapes Go.WideShapes Go.ChangeAt Go.RowKit
set_option linter.unusedVariables false

/-- The policy, the new cell, and the two results, the first of which may be laid. -/
structure AskE (w0 : World) (k l v b T H : Int) (g : Nat) (lc : List Value) (w : World) : Prop where
  p : Has w w0.heap.size 23 [.int .i64 k, .int .i64 l, .int .i64 v, .int .i64 b]
  d : Has w g 27 [.int .i64 T, .int .i64 H, .slice none 0 0, .slice none 0 0]
  rc : Has w (w0.heap.size + 1 + 1) 27 lc
  rv : Has w (w0.heap.size + 1 + 1 + 1) 32 [.bool false, .int .i64 0, .int .i64 0, .int .i64 0]
  be : Below w0.heap.size w0 w
theorem Has.set4 {w : World} {g B : Nat} {t : TypeId} {l : List Value} (h : Has w g t l) (hB : g ≠ B) (x0 x1 x2 x3 : Value) : Has ((((w.setCell ⟨B, 0, none⟩ x0).setCell ⟨B, 1, none⟩ x1).setCell ⟨B, 2, none⟩ x2).setCell ⟨B, 3, none⟩ x3) g t l :=
  (((h.apart (p := ⟨B, 0, none⟩) hB x0).apart (p := ⟨B, 1, none⟩) hB x1).apart (p := ⟨B, 2, none⟩) hB x2).apart (p := ⟨B, 3, none⟩) hB x3
section
variable {w0 w w' : World} {k l v b T H : Int} {g : Nat} {lc : List Value}
theorem AskE.step (h : AskE w0 k l v b T H g lc w) (hb : Below w.heap.size w w') : AskE w0 k l v b T H g lc w' :=
  ⟨h.p.below hb h.p.lt, h.d.below hb h.d.lt, h.rc.below hb h.rc.lt, h.rv.below hb h.rv.lt, h.be.trans (hb.mono h.be.size)⟩
theorem AskE.drew (h : AskE w0 k l v b T H g lc w) : AskE w0 k l v b T H g lc w.drew := ⟨h.p, h.d, h.rc, h.rv, h.be.drew⟩
theorem AskE.put (h : AskE w0 k l v b T H g [.int .i64 0, .int .i64 0, .slice none 0 0, .slice none 0 0] w) (hg : w0.heap.size + 1 + 1 + 1 < g) : AskE w0 k l v b T H g [.int .i64 T, .int .i64 H, .slice none 0 0, .slice none 0 0] ((((w.setCell ⟨w0.heap.size + 1 + 1, 0, none⟩ (.int .i64 T)).setCell ⟨w0.heap.size + 1 + 1, 1, none⟩ (.int .i64 H)).setCell ⟨w0.heap.size + 1 + 1, 2, none⟩ (.slice none 0 0)).setCell ⟨w0.heap.size + 1 + 1, 3, none⟩ (.slice none 0 0)) := by
  refine ⟨h.p.set4 (by omega) _ _ _ _, h.d.set4 (by omega) _ _ _ _, ?_, h.rv.set4 (by omega) _ _ _ _, (((h.be.setCell (p := ⟨_, 0, none⟩) (le2 _) _).setCell (p := ⟨_, 1, none⟩) (le2 _) _).setCell (p := ⟨_, 2, none⟩) (le2 _) _).setCell (p := ⟨_, 3, none⟩) (le2 _) _⟩
  have h4 := (((h.rc.store 0 (.int .i64 T)).store 1 (.int .i64 H)).store 2 (.slice none 0 0)).store 3 (.slice none 0 0)
  simpa using h4
theorem pd_of {W : World} (p : Has W w0.heap.size 23 [.int .i64 k, .int .i64 l, .int .i64 v, .int .i64 b]) (d : Has W g 27 [.int .i64 T, .int .i64 H, .slice none 0 0, .slice none 0 0]) : (W.cell? ⟨w0.heap.size, 0, none⟩ = some (.int .i64 k) ∧ W.cell? ⟨w0.heap.size, 1, none⟩ = some (.int .i64 l) ∧ W.cell? ⟨w0.heap.size, 2, none⟩ = some (.int .i64 v) ∧ W.cell? ⟨w0.heap.size, 3, none⟩ = some (.int .i64 b)) ∧ W.cell? ⟨g, 0, none⟩ = some (.int .i64 T) ∧ W.cell? ⟨g, 1, none⟩ = some (.int .i64 H) ∧ W.cell? ⟨g, 2, none⟩ = some (.slice none 0 0) ∧ W.cell? ⟨g, 3, none⟩ = some (.slice none 0 0) :=
  ⟨⟨p.cell 0, p.cell 1, p.cell 2, p.cell 3⟩, d.cell 0, d.cell 1, d.cell 2, d.cell 3⟩
theorem AskE.pd (h : AskE w0 k l v b T H g lc w) : (w.cell? ⟨w0.heap.size, 0, none⟩ = some (.int .i64 k) ∧ w.cell? ⟨w0.heap.size, 1, none⟩ = some (.int .i64 l) ∧ w.cell? ⟨w0.heap.size, 2, none⟩ = some (.int .i64 v) ∧ w.cell? ⟨w0.heap.size, 3, none⟩ = some (.int .i64 b)) ∧ w.cell? ⟨g, 0, none⟩ = some (.int .i64 T) ∧ w.cell? ⟨g, 1, none⟩ = some (.int .i64 H) ∧ w.cell? ⟨g, 2, none⟩ = some (.slice none 0 0) ∧ w.cell? ⟨g, 3, none⟩ = some (.slice none 0 0) := pd_of h.p h.d
theorem AskE.vpd (h : AskE w0 k l v b T H g lc w) (hg : w0.heap.size + 1 + 1 + 1 < g) (x0 x1 x2 x3 : Value) : ((((((w).setCell ⟨w0.heap.size + 1 + 1 + 1, 0, none⟩ x0).setCell ⟨w0.heap.size + 1 + 1 + 1, 1, none⟩ x1).setCell ⟨w0.heap.size + 1 + 1 + 1, 2, none⟩ x2).setCell ⟨w0.heap.size + 1 + 1 + 1, 3, none⟩ x3).cell? ⟨w0.heap.size, 0, none⟩ = some (.int .i64 k) ∧ (((((w).setCell ⟨w0.heap.size + 1 + 1 + 1, 0, none⟩ x0).setCell ⟨w0.heap.size + 1 + 1 + 1, 1, none⟩ x1).setCell ⟨w0.heap.size + 1 + 1 + 1, 2, none⟩ x2).setCell ⟨w0.heap.size + 1 + 1 + 1, 3, none⟩ x3).cell? ⟨w0.heap.size, 1, none⟩ = some (.int .i64 l) ∧ (((((w).setCell ⟨w0.heap.size + 1 + 1 + 1, 0, none⟩ x0).setCell ⟨w0.heap.size + 1 + 1 + 1, 1, none⟩ x1).setCell ⟨w0.heap.size + 1 + 1 + 1, 2, none⟩ x2).setCell ⟨w0.heap.size + 1 + 1 + 1, 3, none⟩ x3).cell? ⟨w0.heap.size, 2, none⟩ = some (.int .i64 v) ∧ (((((w).setCell ⟨w0.heap.size + 1 + 1 + 1, 0, none⟩ x0).setCell ⟨w0.heap.size + 1 + 1 + 1, 1, none⟩ x1).setCell ⟨w0.heap.size + 1 + 1 + 1, 2, none⟩ x2).setCell ⟨w0.heap.size + 1 + 1 + 1, 3, none⟩ x3).cell? ⟨w0.heap.size, 3, none⟩ = some (.int .i64 b)) ∧ (((((w).setCell ⟨w0.heap.size + 1 + 1 + 1, 0, none⟩ x0).setCell ⟨w0.heap.size + 1 + 1 + 1, 1, none⟩ x1).setCell ⟨w0.heap.size + 1 + 1 + 1, 2, none⟩ x2).setCell ⟨w0.heap.size + 1 + 1 + 1, 3, none⟩ x3).cell? ⟨g, 0, none⟩ = some (.int .i64 T) ∧ (((((w).setCell ⟨w0.heap.size + 1 + 1 + 1, 0, none⟩ x0).setCell ⟨w0.heap.size + 1 + 1 + 1, 1, none⟩ x1).setCell ⟨w0.heap.size + 1 + 1 + 1, 2, none⟩ x2).setCell ⟨w0.heap.size + 1 + 1 + 1, 3, none⟩ x3).cell? ⟨g, 1, none⟩ = some (.int .i64 H) ∧ (((((w).setCell ⟨w0.heap.size + 1 + 1 + 1, 0, none⟩ x0).setCell ⟨w0.heap.size + 1 + 1 + 1, 1, none⟩ x1).setCell ⟨w0.heap.size + 1 + 1 + 1, 2, none⟩ x2).setCell ⟨w0.heap.size + 1 + 1 + 1, 3, none⟩ x3).cell? ⟨g, 2, none⟩ = some (.slice none 0 0) ∧ (((((w).setCell ⟨w0.heap.size + 1 + 1 + 1, 0, none⟩ x0).setCell ⟨w0.heap.size + 1 + 1 + 1, 1, none⟩ x1).setCell ⟨w0.heap.size + 1 + 1 + 1, 2, none⟩ x2).setCell ⟨w0.heap.size + 1 + 1 + 1, 3, none⟩ x3).cell? ⟨g, 3, none⟩ = some (.slice none 0 0) := pd_of (h.p.set4 (by omega) _ _ _ _) (h.d.set4 (by omega) _ _ _ _)
theorem AskE.vcpd (h : AskE w0 k l v b T H g lc w) (hg : w0.heap.size + 1 + 1 + 1 < g) (x0 x1 x2 x3 y0 y1 y2 y3 : Value) : ((((((((((w).setCell ⟨w0.heap.size + 1 + 1 + 1, 0, none⟩ x0).setCell ⟨w0.heap.size + 1 + 1 + 1, 1, none⟩ x1).setCell ⟨w0.heap.size + 1 + 1 + 1, 2, none⟩ x2).setCell ⟨w0.heap.size + 1 + 1 + 1, 3, none⟩ x3).setCell ⟨w0.heap.size + 1 + 1, 0, none⟩ y0).setCell ⟨w0.heap.size + 1 + 1, 1, none⟩ y1).setCell ⟨w0.heap.size + 1 + 1, 2, none⟩ y2).setCell ⟨w0.heap.size + 1 + 1, 3, none⟩ y3).cell? ⟨w0.heap.size, 0, none⟩ = some (.int .i64 k) ∧ (((((((((w).setCell ⟨w0.heap.size + 1 + 1 + 1, 0, none⟩ x0).setCell ⟨w0.heap.size + 1 + 1 + 1, 1, none⟩ x1).setCell ⟨w0.heap.size + 1 + 1 + 1, 2, none⟩ x2).setCell ⟨w0.heap.size + 1 + 1 + 1, 3, none⟩ x3).setCell ⟨w0.heap.size + 1 + 1, 0, none⟩ y0).setCell ⟨w0.heap.size + 1 + 1, 1, none⟩ y1).setCell ⟨w0.heap.size + 1 + 1, 2, none⟩ y2).setCell ⟨w0.heap.size + 1 + 1, 3, none⟩ y3).cell? ⟨w0.heap.size, 1, none⟩ = some (.int .i64 l) ∧ (((((((((w).setCell ⟨w0.heap.size + 1 + 1 + 1, 0, none⟩ x0).setCell ⟨w0.heap.size + 1 + 1 + 1, 1, none⟩ x1).setCell ⟨w0.heap.size + 1 + 1 + 1, 2, none⟩ x2).setCell ⟨w0.heap.size + 1 + 1 + 1, 3, none⟩ x3).setCell ⟨w0.heap.size + 1 + 1, 0, none⟩ y0).setCell ⟨w0.heap.size + 1 + 1, 1, none⟩ y1).setCell ⟨w0.heap.size + 1 + 1, 2, none⟩ y2).setCell ⟨w0.heap.size + 1 + 1, 3, none⟩ y3).cell? ⟨w0.heap.size, 2, none⟩ = some (.int .i64 v) ∧ (((((((((w).setCell ⟨w0.heap.size + 1 + 1 + 1, 0, none⟩ x0).setCell ⟨w0.heap.size + 1 + 1 + 1, 1, none⟩ x1).setCell ⟨w0.heap.size + 1 + 1 + 1, 2, none⟩ x2).setCell ⟨w0.heap.size + 1 + 1 + 1, 3, none⟩ x3).setCell ⟨w0.heap.size + 1 + 1, 0, none⟩ y0).setCell ⟨w0.heap.size + 1 + 1, 1, none⟩ y1).setCell ⟨w0.heap.size + 1 + 1, 2, none⟩ y2).setCell ⟨w0.heap.size + 1 + 1, 3, none⟩ y3).cell? ⟨w0.heap.size, 3, none⟩ = some (.int .i64 b)) ∧ (((((((((w).setCell ⟨w0.heap.size + 1 + 1 + 1, 0, none⟩ x0).setCell ⟨w0.heap.size + 1 + 1 + 1, 1, none⟩ x1).setCell ⟨w0.heap.size + 1 + 1 + 1, 2, none⟩ x2).setCell ⟨w0.heap.size + 1 + 1 + 1, 3, none⟩ x3).setCell ⟨w0.heap.size + 1 + 1, 0, none⟩ y0).setCell ⟨w0.heap.size + 1 + 1, 1, none⟩ y1).setCell ⟨w0.heap.size + 1 + 1, 2, none⟩ y2).setCell ⟨w0.heap.size + 1 + 1, 3, none⟩ y3).cell? ⟨g, 0, none⟩ = some (.int .i64 T) ∧ (((((((((w).setCell ⟨w0.heap.size + 1 + 1 + 1, 0, none⟩ x0).setCell ⟨w0.heap.size + 1 + 1 + 1, 1, none⟩ x1).setCell ⟨w0.heap.size + 1 + 1 + 1, 2, none⟩ x2).setCell ⟨w0.heap.size + 1 + 1 + 1, 3, none⟩ x3).setCell ⟨w0.heap.size + 1 + 1, 0, none⟩ y0).setCell ⟨w0.heap.size + 1 + 1, 1, none⟩ y1).setCell ⟨w0.heap.size + 1 + 1, 2, none⟩ y2).setCell ⟨w0.heap.size + 1 + 1, 3, none⟩ y3).cell? ⟨g, 1, none⟩ = some (.int .i64 H) ∧ (((((((((w).setCell ⟨w0.heap.size + 1 + 1 + 1, 0, none⟩ x0).setCell ⟨w0.heap.size + 1 + 1 + 1, 1, none⟩ x1).setCell ⟨w0.heap.size + 1 + 1 + 1, 2, none⟩ x2).setCell ⟨w0.heap.size + 1 + 1 + 1, 3, none⟩ x3).setCell ⟨w0.heap.size + 1 + 1, 0, none⟩ y0).setCell ⟨w0.heap.size + 1 + 1, 1, none⟩ y1).setCell ⟨w0.heap.size + 1 + 1, 2, none⟩ y2).setCell ⟨w0.heap.size + 1 + 1, 3, none⟩ y3).cell? ⟨g, 2, none⟩ = some (.slice none 0 0) ∧ (((((((((w).setCell ⟨w0.heap.size + 1 + 1 + 1, 0, none⟩ x0).setCell ⟨w0.heap.size + 1 + 1 + 1, 1, none⟩ x1).setCell ⟨w0.heap.size + 1 + 1 + 1, 2, none⟩ x2).setCell ⟨w0.heap.size + 1 + 1 + 1, 3, none⟩ x3).setCell ⟨w0.heap.size + 1 + 1, 0, none⟩ y0).setCell ⟨w0.heap.size + 1 + 1, 1, none⟩ y1).setCell ⟨w0.heap.size + 1 + 1, 2, none⟩ y2).setCell ⟨w0.heap.size + 1 + 1, 3, none⟩ y3).cell? ⟨g, 3, none⟩ = some (.slice none 0 0) := pd_of ((h.p.set4 (by omega) _ _ _ _).set4 (by omega) _ _ _ _) ((h.d.set4 (by omega) _ _ _ _).set4 (by omega) _ _ _ _)
theorem AskE.res {x0 x1 x2 x3 : Value} (h : AskE w0 k l v b T H g [x0, x1, x2, x3] w) :
    w.cell? ⟨w0.heap.size + 1 + 1, 0, none⟩ = some x0 ∧ w.cell? ⟨w0.heap.size + 1 + 1, 1, none⟩ = some x1 ∧ w.cell? ⟨w0.heap.size + 1 + 1, 2, none⟩ = some x2 ∧ w.cell? ⟨w0.heap.size + 1 + 1, 3, none⟩ = some x3 ∧
    w.cell? ⟨w0.heap.size + 1 + 1 + 1, 0, none⟩ = some (.bool false) ∧ w.cell? ⟨w0.heap.size + 1 + 1 + 1, 1, none⟩ = some (.int .i64 0) ∧ w.cell? ⟨w0.heap.size + 1 + 1 + 1, 2, none⟩ = some (.int .i64 0) ∧ w.cell? ⟨w0.heap.size + 1 + 1 + 1, 3, none⟩ = some (.int .i64 0) ∧
    (∀ i, w.frozen? ⟨w0.heap.size + 1 + 1, i, none⟩ = false) ∧ (∀ i, w.frozen? ⟨w0.heap.size + 1 + 1 + 1, i, none⟩ = false) :=
  ⟨h.rc.cell 0, h.rc.cell 1, h.rc.cell 2, h.rc.cell 3, h.rv.cell 0, h.rv.cell 1, h.rv.cell 2, h.rv.cell 3, h.rc.loose, h.rv.loose⟩
end
theorem AskAt.toE {w0 w : World} {k l v b a n : Int} {x y : Value} {T H : Int} (h : AskAt w0 k l v b a n x y w) (hp : Has w w0.heap.size 23 [.int .i64 k, .int .i64 l, .int .i64 v, .int .i64 b]) : AskE w0 k l v b T H w.heap.size [.int .i64 0, .int .i64 0, .slice none 0 0, .slice none 0 0] (w.alloc (.cells #[.int .i64 T, .int .i64 H, .slice none 0 0, .slice none 0 0] 27)) :=
  ⟨hp.alloc _, Has.made _ _ _, h.rc.alloc _, h.rv.alloc _, h.pc.be.alloc h.pc.be.size _⟩
theorem le0 (n : Nat) : n ≤ n := Nat.le_refl n

set_option maxRecDepth 100000 in
set_option maxHeartbeats 4000000 in
theorem Ask_al (k l v b a n t m T R : Int) (sa ha : Option Addr) (sn sc hn hc : Nat) (w : World) (h : MayG k l v b a n sn hn) (t1 : 0 ≤ t) (t2 : t ≤ 1099511627776) (m1 : 1 ≤ m) (m2 : m ≤ 1048576)
    (hT : tmax t a = T) (hR : totF v a n T = R) (hq : R + m ≤ l) :
    Calls Try.prog 10 #[.agg #[.int .i64 k, .int .i64 l, .int .i64 v, .int .i64 b], .agg #[.int .i64 a, .int .i64 n, .slice sa sn sc, .slice ha hn hc], .int .i64 t, .int .i64 m] w fun e w' => e = .returned (.tuple #[.agg #[.int .i64 T, .int .i64 (R + m), .slice none 0 0, .slice none 0 0], .agg #[.bool true, .int .i64 (l - (R + m)), .int .i64 (retF l v T m true), .int .i64 (endF v T (R + m) - T)]]) ∧ Below w.heap.size w w' := by
  have MK := Lib.hid (fun u => May_yes k l v b a n sa ha sn sc hn hc u h)
  have TK := Lib.hid (fun u => isTick_yes t u t1 t2)
  have WK := Lib.hid (fun u => Weighs_yes m u m1 m2)
  obtain ⟨l1, l2, v1, v2⟩ := h.1.lv
  obtain ⟨hp, hk, ⟨ha1, ha2⟩, hn1, hn2, hs, hh⟩ := h
  have tb : a ≤ T ∧ T ≤ 1099511627776 := by rw [← hT]; unfold tmax; split <;> omega
  have tmm : (t < a ∧ T = a) ∨ (a ≤ t ∧ T = t) := by rw [← hT]; unfold tmax; split <;> omega
  have LV := Lib.hid (fun u => total_any k l v b a n T sa ha sn sc hn hc u ha1 tb.1 tb.2 v1 v2)
  have rb : 0 ≤ R ∧ R ≤ l := by rw [← hR]; unfold totF; split <;> omega
  rw [hR] at LV
  obtain ⟨rb1, rb2⟩ := rb
  obtain ⟨tb1, tb2⟩ := tb
  have RT := Lib.hid (fun u => retry_any k l v b T m true u (by omega) tb2 v1 v2)
  have EN := Lib.hid (fun u => ends_any k l v b T (R + m) none none 0 0 0 0 u (by omega) tb2 v1 v2)
  have eb : T ≤ endF v T (R + m) ∧ endF v T (R + m) ≤ T + v := by
    obtain ⟨_, _, q2, q3, q4⟩ := win_bd (show 0 ≤ T by omega) v1
    unfold endF nextF; split <;> omega
  obtain ⟨eb1, eb2⟩ := eb
  have e1 : IntKind.i64.wrap (l - (R + m)) = l - (R + m) := wrap_i (by omega) (by omega)
  have e2 : IntKind.i64.wrap (endF v T (R + m) - T) = endF v T (R + m) - T := wrap_i (by omega) (by omega)
  have dq : decide (R + m ≤ l) = true := by simp; omega
  have HP := Lib.hid (AskAt.made w k l v b a n (.slice sa sn sc) (.slice ha hn hc))
  have PP := Lib.hid (((Has.made w 23 [.int .i64 k, .int .i64 l, .int .i64 v, .int .i64 b]).alloc (.cells #[.int .i64 a, .int .i64 n, .slice sa sn sc, .slice ha hn hc] 27)).alloc (.cells #[.int .i64 0, .int .i64 0, .slice none 0 0, .slice none 0 0] 27) |>.alloc (.cells #[.bool false, .int .i64 0, .int .i64 0, .int .i64 0] 32))
  clear hp hk hs hh hT hR
  generalize retF l v T m true = Q at *
  generalize endF v T (R + m) = E at *
  go_enter Try.func10, Try.ntmps10
  go_wp2_with fail
  refine (MK.out _).mono ?_; rintro e w1 ⟨rfl, hb⟩
  have hp := HP.out.step hb
  have PQ := Lib.hid (PP.out.below hb PP.out.lt)
  have z0 := hp.pc.p0
  have z4 := hp.pc.c0
  have z1 := hp.pc.p1
  have z5 := hp.pc.c1
  have z2 := hp.pc.p2
  have z6 := hp.pc.c2
  have z3 := hp.pc.p3
  have z7 := hp.pc.c3
  have HQ := Lib.hid hp
  clear hp hb HP MK PP
  go_wp2_with fail
  refine (TK.out _).mono ?_; rintro e w' ⟨rfl, rfl⟩
  go_wp2_with fail
  refine (WK.out _).mono ?_; rintro e w' ⟨rfl, rfl⟩
  go_upto_region 3 with (fail)
  go_cut [2] (fun s2 wx => s2 = .int .i64 T ∧ wx = w1)
  case first =>
    rcases tmm with ⟨q1, q2⟩ | ⟨q1, q2⟩
    · go_upto_region 4 with (fail)
      all_goals (go_meet; exact ⟨by rw [q2], rfl⟩)
    · go_upto_region 4 with (fail)
      all_goals (go_meet; exact ⟨by rw [q2], rfl⟩)
  case rest =>
  obtain ⟨rfl, rfl⟩ := hcut
  clear tmm
  go_wp2_with fail
  refine (LV.out _).mono ?_; rintro e w2 ⟨rfl, hb⟩
  have hp := HQ.out.step hb
  clear z0 z1 z2 z3 z4 z5 z6 z7 HQ LV
  have z0 := hp.pc.p0
  have z4 := hp.pc.c0
  have z1 := hp.pc.p1
  have z5 := hp.pc.c1
  have z2 := hp.pc.p2
  have z6 := hp.pc.c2
  have z3 := hp.pc.p3
  have z7 := hp.pc.c3
  have HF := Lib.hid hp
  have PR := Lib.hid (PQ.out.below hb PQ.out.lt)
  have b3 := hp.rv.lt
  clear hp hb PQ
  go_wp2_with fail
  have hp := AskAt.toE (T := T) (H := (R + m)) HF.out PR.out
  have HG := Lib.hid b3
  clear z0 z1 z2 z3 z4 z5 z6 z7 HF PR b3 dq
  generalize w2.alloc (.cells #[.int .i64 T, .int .i64 (R + m), .slice none 0 0, .slice none 0 0] 27) = wz at hp ⊢
  generalize w2.heap.size = g at hp HG ⊢
  obtain ⟨r0, r1, r2, r3, r4, r5, r6, r7, r8, r9⟩ := hp.res
  have HE := Lib.hid hp
  clear hp
  go_region_held3 (fun w' => (w'.cell? ⟨w.heap.size, 0, none⟩ = some (.int .i64 k) ∧ w'.cell? ⟨w.heap.size, 1, none⟩ = some (.int .i64 l) ∧ w'.cell? ⟨w.heap.size, 2, none⟩ = some (.int .i64 v) ∧ w'.cell? ⟨w.heap.size, 3, none⟩ = some (.int .i64 b)) ∧ w'.cell? ⟨g, 0, none⟩ = some (.int .i64 T) ∧ w'.cell? ⟨g, 1, none⟩ = some (.int .i64 (R + m)) ∧ w'.cell? ⟨g, 2, none⟩ = some (.slice none 0 0) ∧ w'.cell? ⟨g, 3, none⟩ = some (.slice none 0 0)) (first | (with_reducible exact HE.out.pd) | (with_reducible exact HE.out.drew.pd) | (with_reducible exact (HE.out.put HG.out).pd) | (with_reducible exact (HE.out.put HG.out).drew.pd) | (with_reducible exact (HE.out.drew.put HG.out).pd) | (with_reducible exact H1.out.pd) | (with_reducible exact (H1.out.put HG.out).pd) | (with_reducible exact H2.out.pd) | (with_reducible exact (H2.out.put HG.out).pd) | (with_reducible exact H2.out.vpd HG.out _ _ _ _) | (with_reducible exact (H2.out.put HG.out).vpd HG.out _ _ _ _) | (with_reducible exact H2.out.vcpd HG.out _ _ _ _ _ _ _ _) | go_keep) (first | (go_at_call 24; (with_reducible refine (RT.out _).mono ?_); rintro e wa ⟨rfl, hb⟩; first | ((with_reducible have hp := (HE.out.drew).step hb); have H1 := Lib.hid hp; clear r0 r1 r2 r3 r4 r5 r6 r7 r8 r9; obtain ⟨r0, r1, r2, r3, r4, r5, r6, r7, r8, r9⟩ := hp.res; clear hb hp) | ((with_reducible have hp := ((HE.out.put HG.out).drew).step hb); have H1 := Lib.hid hp; clear r0 r1 r2 r3 r4 r5 r6 r7 r8 r9; obtain ⟨r0, r1, r2, r3, r4, r5, r6, r7, r8, r9⟩ := hp.res; clear hb hp) | ((with_reducible have hp := (HE.out.drew.put HG.out).step hb); have H1 := Lib.hid hp; clear r0 r1 r2 r3 r4 r5 r6 r7 r8 r9; obtain ⟨r0, r1, r2, r3, r4, r5, r6, r7, r8, r9⟩ := hp.res; clear hb hp)) | (go_at_call 25; (with_reducible refine (EN.out _).mono ?_); rintro e wb ⟨rfl, hb⟩; first | ((with_reducible have hp := (H1.out).step hb); have H2 := Lib.hid hp; clear r0 r1 r2 r3 r4 r5 r6 r7 r8 r9; obtain ⟨r0, r1, r2, r3, r4, r5, r6, r7, r8, r9⟩ := hp.res; clear hb hp) | ((with_reducible have hp := (H1.out.put HG.out).step hb); have H2 := Lib.hid hp; clear r0 r1 r2 r3 r4 r5 r6 r7 r8 r9; obtain ⟨r0, r1, r2, r3, r4, r5, r6, r7, r8, r9⟩ := hp.res; clear hb hp)))
  all_goals go_wp2_with fail
  all_goals refine bodyPost_ret (v := .tuple #[.agg #[.int .i64 T, .int .i64 (R + m), .slice none 0 0, .slice none 0 0], .agg #[.bool true, .int .i64 (l - (R + m)), .int .i64 Q, .int .i64 (E - T)]]) (by simp [results, Try.results10, go_sem, r0, r1, r2, r3, r4, r5, r6, r7]) rfl ⟨rfl, ?_⟩
  all_goals repeat (first | with_reducible exact H2.out.be | with_reducible (refine Below.setCell ?_ (le3 _) _) | with_reducible (refine Below.setCell ?_ (le2 _) _) | with_reducible refine Below.drew ?_)

set_option maxRecDepth 100000 in
set_option maxHeartbeats 4000000 in
theorem Ask_re (k l v b a n t m T R : Int) (sa ha : Option Addr) (sn sc hn hc : Nat) (w : World) (h : MayG k l v b a n sn hn) (t1 : 0 ≤ t) (t2 : t ≤ 1099511627776) (m1 : 1 ≤ m) (m2 : m ≤ 1048576)
    (hT : tmax t a = T) (hR : totF v a n T = R) (hq : l < R + m) :
    Calls Try.prog 10 #[.agg #[.int .i64 k, .int .i64 l, .int .i64 v, .int .i64 b], .agg #[.int .i64 a, .int .i64 n, .slice sa sn sc, .slice ha hn hc], .int .i64 t, .int .i64 m] w fun e w' => e = .returned (.tuple #[.agg #[.int .i64 T, .int .i64 R, .slice none 0 0, .slice none 0 0], .agg #[.bool false, .int .i64 (l - R), .int .i64 (retF l v T m false), .int .i64 (endF v T R - T)]]) ∧ Below w.heap.size w w' := by
  have MK := Lib.hid (fun u => May_yes k l v b a n sa ha sn sc hn hc u h)
  have TK := Lib.hid (fun u => isTick_yes t u t1 t2)
  have WK := Lib.hid (fun u => Weighs_yes m u m1 m2)
  obtain ⟨l1, l2, v1, v2⟩ := h.1.lv
  obtain ⟨hp, hk, ⟨ha1, ha2⟩, hn1, hn2, hs, hh⟩ := h
  have tb : a ≤ T ∧ T ≤ 1099511627776 := by rw [← hT]; unfold tmax; split <;> omega
  have tmm : (t < a ∧ T = a) ∨ (a ≤ t ∧ T = t) := by rw [← hT]; unfold tmax; split <;> omega
  have LV := Lib.hid (fun u => total_any k l v b a n T sa ha sn sc hn hc u ha1 tb.1 tb.2 v1 v2)
  have rb : 0 ≤ R ∧ R ≤ l := by rw [← hR]; unfold totF; split <;> omega
  rw [hR] at LV
  obtain ⟨rb1, rb2⟩ := rb
  obtain ⟨tb1, tb2⟩ := tb
  have RT := Lib.hid (fun u => retry_any k l v b T m false u (by omega) tb2 v1 v2)
  have EN := Lib.hid (fun u => ends_any k l v b T R none none 0 0 0 0 u (by omega) tb2 v1 v2)
  have eb : T ≤ endF v T R ∧ endF v T R ≤ T + v := by
    obtain ⟨_, _, q2, q3, q4⟩ := win_bd (show 0 ≤ T by omega) v1
    unfold endF nextF; split <;> omega
  obtain ⟨eb1, eb2⟩ := eb
  have e1 : IntKind.i64.wrap (l - R) = l - R := wrap_i (by omega) (by omega)
  have e2 : IntKind.i64.wrap (endF v T R - T) = endF v T R - T := wrap_i (by omega) (by omega)
  have dq : decide (R + m ≤ l) = false := by simp; omega
  have HP := Lib.hid (AskAt.made w k l v b a n (.slice sa sn sc) (.slice ha hn hc))
  have PP := Lib.hid (((Has.made w 23 [.int .i64 k, .int .i64 l, .int .i64 v, .int .i64 b]).alloc (.cells #[.int .i64 a, .int .i64 n, .slice sa sn sc, .slice ha hn hc] 27)).alloc (.cells #[.int .i64 0, .int .i64 0, .slice none 0 0, .slice none 0 0] 27) |>.alloc (.cells #[.bool false, .int .i64 0, .int .i64 0, .int .i64 0] 32))
  clear hp hk hs hh hT hR
  generalize retF l v T m false = Q at *
  generalize endF v T R = E at *
  go_enter Try.func10, Try.ntmps10
  go_wp2_with fail
  refine (MK.out _).mono ?_; rintro e w1 ⟨rfl, hb⟩
  have hp := HP.out.step hb
  have PQ := Lib.hid (PP.out.below hb PP.out.lt)
  have z0 := hp.pc.p0
  have z4 := hp.pc.c0
  have z1 := hp.pc.p1
  have z5 := hp.pc.c1
  have z2 := hp.pc.p2
  have z6 := hp.pc.c2
  have z3 := hp.pc.p3
  have z7 := hp.pc.c3
  have HQ := Lib.hid hp
  clear hp hb HP MK PP
  go_wp2_with fail
  refine (TK.out _).mono ?_; rintro e w' ⟨rfl, rfl⟩
  go_wp2_with fail
  refine (WK.out _).mono ?_; rintro e w' ⟨rfl, rfl⟩
  go_upto_region 3 with (fail)
  go_cut [2] (fun s2 wx => s2 = .int .i64 T ∧ wx = w1)
  case first =>
    rcases tmm with ⟨q1, q2⟩ | ⟨q1, q2⟩
    · go_upto_region 4 with (fail)
      all_goals (go_meet; exact ⟨by rw [q2], rfl⟩)
    · go_upto_region 4 with (fail)
      all_goals (go_meet; exact ⟨by rw [q2], rfl⟩)
  case rest =>
  obtain ⟨rfl, rfl⟩ := hcut
  clear tmm
  go_wp2_with fail
  refine (LV.out _).mono ?_; rintro e w2 ⟨rfl, hb⟩
  have hp := HQ.out.step hb
  clear z0 z1 z2 z3 z4 z5 z6 z7 HQ LV
  have z0 := hp.pc.p0
  have z4 := hp.pc.c0
  have z1 := hp.pc.p1
  have z5 := hp.pc.c1
  have z2 := hp.pc.p2
  have z6 := hp.pc.c2
  have z3 := hp.pc.p3
  have z7 := hp.pc.c3
  have HF := Lib.hid hp
  have PR := Lib.hid (PQ.out.below hb PQ.out.lt)
  have b3 := hp.rv.lt
  clear hp hb PQ
  go_wp2_with fail
  have hp := AskAt.toE (T := T) (H := R) HF.out PR.out
  have HG := Lib.hid b3
  clear z0 z1 z2 z3 z4 z5 z6 z7 HF PR b3 dq
  generalize w2.alloc (.cells #[.int .i64 T, .int .i64 R, .slice none 0 0, .slice none 0 0] 27) = wz at hp ⊢
  generalize w2.heap.size = g at hp HG ⊢
  obtain ⟨r0, r1, r2, r3, r4, r5, r6, r7, r8, r9⟩ := hp.res
  have HE := Lib.hid hp
  clear hp
  go_region_held3 (fun w' => (w'.cell? ⟨w.heap.size, 0, none⟩ = some (.int .i64 k) ∧ w'.cell? ⟨w.heap.size, 1, none⟩ = some (.int .i64 l) ∧ w'.cell? ⟨w.heap.size, 2, none⟩ = some (.int .i64 v) ∧ w'.cell? ⟨w.heap.size, 3, none⟩ = some (.int .i64 b)) ∧ w'.cell? ⟨g, 0, none⟩ = some (.int .i64 T) ∧ w'.cell? ⟨g, 1, none⟩ = some (.int .i64 R) ∧ w'.cell? ⟨g, 2, none⟩ = some (.slice none 0 0) ∧ w'.cell? ⟨g, 3, none⟩ = some (.slice none 0 0)) (first | (with_reducible exact HE.out.pd) | (with_reducible exact HE.out.drew.pd) | (with_reducible exact (HE.out.put HG.out).pd) | (with_reducible exact (HE.out.put HG.out).drew.pd) | (with_reducible exact (HE.out.drew.put HG.out).pd) | (with_reducible exact H1.out.pd) | (with_reducible exact (H1.out.put HG.out).pd) | (with_reducible exact H2.out.pd) | (with_reducible exact (H2.out.put HG.out).pd) | (with_reducible exact H2.out.vpd HG.out _ _ _ _) | (with_reducible exact (H2.out.put HG.out).vpd HG.out _ _ _ _) | (with_reducible exact H2.out.vcpd HG.out _ _ _ _ _ _ _ _) | go_keep) (first | (go_at_call 24; (with_reducible refine (RT.out _).mono ?_); rintro e wa ⟨rfl, hb⟩; first | ((with_reducible have hp := (HE.out.drew).step hb); have H1 := Lib.hid hp; clear r0 r1 r2 r3 r4 r5 r6 r7 r8 r9; obtain ⟨r0, r1, r2, r3, r4, r5, r6, r7, r8, r9⟩ := hp.res; clear hb hp) | ((with_reducible have hp := ((HE.out.put HG.out).drew).step hb); have H1 := Lib.hid hp; clear r0 r1 r2 r3 r4 r5 r6 r7 r8 r9; obtain ⟨r0, r1, r2, r3, r4, r5, r6, r7, r8, r9⟩ := hp.res; clear hb hp) | ((with_reducible have hp := (HE.out.drew.put HG.out).step hb); have H1 := Lib.hid hp; clear r0 r1 r2 r3 r4 r5 r6 r7 r8 r9; obtain ⟨r0, r1, r2, r3, r4, r5, r6, r7, r8, r9⟩ := hp.res; clear hb hp)) | (go_at_call 25; (with_reducible refine (EN.out _).mono ?_); rintro e wb ⟨rfl, hb⟩; first | ((with_reducible have hp := (H1.out).step hb); have H2 := Lib.hid hp; clear r0 r1 r2 r3 r4 r5 r6 r7 r8 r9; obtain ⟨r0, r1, r2, r3, r4, r5, r6, r7, r8, r9⟩ := hp.res; clear hb hp) | ((with_reducible have hp := (H1.out.put HG.out).step hb); have H2 := Lib.hid hp; clear r0 r1 r2 r3 r4 r5 r6 r7 r8 r9; obtain ⟨r0, r1, r2, r3, r4, r5, r6, r7, r8, r9⟩ := hp.res; clear hb hp)))
  all_goals go_wp2_with fail
  all_goals refine bodyPost_ret (v := .tuple #[.agg #[.int .i64 T, .int .i64 R, .slice none 0 0, .slice none 0 0], .agg #[.bool false, .int .i64 (l - R), .int .i64 Q, .int .i64 (E - T)]]) (by simp [results, Try.results10, go_sem, r0, r1, r2, r3, r4, r5, r6, r7]) rfl ⟨rfl, ?_⟩
  all_goals repeat (first | with_reducible exact H2.out.be | with_reducible (refine Below.setCell ?_ (le3 _) _) | with_reducible (refine Below.setCell ?_ (le2 _) _) | with_reducible refine Below.drew ?_)
end Go.Proofs.Ytdmephlappmmdab
