/- The contract of exact.Ask, done: its walks. WRITTEN BY gen_ex10.py. -/
import Derived.Test.YtgdcgilhaedbmaaEx6
import Derived.Test.YtgdcgilhaedbmaaEx8
import Derived.Test.YtgdcgilhaedbmaaEx9
import Derived.Deep.DeepCutAuto
import Derived.Deep.RegionWith
-- prune
namespace Go.Proofs.Ytgdcgilhaedbmaa
open Go.ChangeShapes Go.WideShapes Go.ChangeAt Go.RowKit
set_option linter.unusedVariables false

/-- The later one of two times. -/
def tmax (t a : Int) : Int := if t ≤ a then a else t
theorem le2 (n : Nat) : n ≤ n + 1 + 1 := by omega
theorem le3 (n : Nat) : n ≤ n + 1 + 1 + 1 := by omega
theorem OwnH.hits {B : Nat} {w : World} {A : Option Addr} {n c : Nat} {f g : Nat → Int} (h : OwnH B w (.slice A n c) n f g) : HitsAt w A n f g ∧ n ≤ c ∧ c ≤ maxLen := by
  obtain ⟨A', c', e, h1, h2, h3⟩ := h.at_
  injection e with e1 e2 e3
  subst e1 e3
  exact ⟨h3, h1, h2⟩
theorem OwnH.ne {B : Nat} {w : World} {v : Value} {n : Nat} {f g : Nat → Int} (h : OwnH B w v n f g) {t : TypeId} {x : Nat} {l : List Value} (hx : Has w x t l) (ht : t ≠ 50) : ∀ c, v.ownBlock = some c → c ≠ x := by
  intro c hc e
  subst e
  obtain ⟨h1, ⟨rfl, _⟩ | ⟨gb, cap, cur, rfl, hb, hh, h3⟩⟩ := h
  · simp [Value.ownBlock] at hc
  · have e : c = gb := by simpa [Value.ownBlock] using hc.symm
    subst e
    unfold Has at hx
    rw [hh] at hx
    injection hx with hx
    injection hx with hx1 hx2
    exact ht hx2.symm
theorem OwnH.base {B B' : Nat} {w : World} {v : Value} {n : Nat} {f g : Nat → Int} (h : OwnH B w v n f g) (hb : B' ≤ B) : OwnH B' w v n f g := by
  obtain ⟨h1, h2 | ⟨gb, cap, cur, rfl, hg, h3⟩⟩ := h
  · exact ⟨h1, .inl h2⟩
  · exact ⟨h1, .inr ⟨gb, cap, cur, rfl, Nat.le_trans hb hg, h3⟩⟩
theorem ownH_set {B : Nat} {w : World} {v : Value} {n : Nat} {f g : Nat → Int} (h : OwnH B w v n f g) {x : Nat} (hx : ∀ c, v.ownBlock = some c → c ≠ x) (i : Nat) (u : Value) : OwnH B (w.setCell ⟨x, i, none⟩ u) v n f g :=
  h.kept (F := fun c => c = x) (Kept.setCell (F := fun c => c = x) (Kept.refl _ w) (p := ⟨x, i, none⟩) (.inl rfl) u) (fun c hc e => hx c hc e)
theorem ownH_drew {B : Nat} {w : World} {v : Value} {n : Nat} {f g : Nat → Int} (h : OwnH B w v n f g) : OwnH B w.drew v n f g := h
/-- A policy, a cell and the two results, in four new blocks. -/
structure AskAt (w0 : World) (k l v b a n : Int) (x y : Value) (w : World) : Prop where
  pc : PC w0 k l v b a n x y w
  p : Has w w0.heap.size 23 [.int .i64 k, .int .i64 l, .int .i64 v, .int .i64 b]
  rc : Has w (w0.heap.size + 1 + 1) 27 [.int .i64 0, .int .i64 0, .slice none 0 0, .slice none 0 0]
  rv : Has w (w0.heap.size + 1 + 1 + 1) 32 [.bool false, .int .i64 0, .int .i64 0, .int .i64 0]
theorem AskAt.made (w : World) (k l v b a n : Int) (x y : Value) : AskAt w k l v b a n x y ((((w.alloc (.cells #[.int .i64 k, .int .i64 l, .int .i64 v, .int .i64 b] 23)).alloc (.cells #[.int .i64 a, .int .i64 n, x, y] 27)).alloc (.cells #[.int .i64 0, .int .i64 0, .slice none 0 0, .slice none 0 0] 27)).alloc (.cells #[.bool false, .int .i64 0, .int .i64 0, .int .i64 0] 32)) := by
  refine ⟨((PC.made w k l v b a n x y _ _).alloc _).alloc _, (((Has.made w 23 [.int .i64 k, .int .i64 l, .int .i64 v, .int .i64 b]).alloc _).alloc _).alloc _, ?_, ?_⟩
  · refine Has.alloc ?_ _
    have := Has.made ((w.alloc (.cells #[.int .i64 k, .int .i64 l, .int .i64 v, .int .i64 b] 23)).alloc (.cells #[.int .i64 a, .int .i64 n, x, y] 27)) 27 [.int .i64 0, .int .i64 0, .slice none 0 0, .slice none 0 0]
    simpa using this
  · have := Has.made (((w.alloc (.cells #[.int .i64 k, .int .i64 l, .int .i64 v, .int .i64 b] 23)).alloc (.cells #[.int .i64 a, .int .i64 n, x, y] 27)).alloc (.cells #[.int .i64 0, .int .i64 0, .slice none 0 0, .slice none 0 0] 27)) 32 [.bool false, .int .i64 0, .int .i64 0, .int .i64 0]
    simpa using this
theorem AskAt.step {w0 w w' : World} {k l v b a n : Int} {x y : Value} (h : AskAt w0 k l v b a n x y w) (hb : Below w.heap.size w w') : AskAt w0 k l v b a n x y w' :=
  ⟨h.pc.step hb, h.p.step hb, h.rc.step hb, h.rv.step hb⟩
theorem AskAt.res {w0 w : World} {k l v b a n : Int} {x y : Value} (h : AskAt w0 k l v b a n x y w) :
    w.cell? ⟨w0.heap.size + 1 + 1, 0, none⟩ = some (.int .i64 0) ∧ w.cell? ⟨w0.heap.size + 1 + 1, 1, none⟩ = some (.int .i64 0) ∧ w.cell? ⟨w0.heap.size + 1 + 1, 2, none⟩ = some (.slice none 0 0) ∧ w.cell? ⟨w0.heap.size + 1 + 1, 3, none⟩ = some (.slice none 0 0) ∧
    w.cell? ⟨w0.heap.size + 1 + 1 + 1, 0, none⟩ = some (.bool false) ∧ w.cell? ⟨w0.heap.size + 1 + 1 + 1, 1, none⟩ = some (.int .i64 0) ∧ w.cell? ⟨w0.heap.size + 1 + 1 + 1, 2, none⟩ = some (.int .i64 0) ∧ w.cell? ⟨w0.heap.size + 1 + 1 + 1, 3, none⟩ = some (.int .i64 0) ∧
    (∀ i, w.frozen? ⟨w0.heap.size + 1 + 1, i, none⟩ = false) ∧ (∀ i, w.frozen? ⟨w0.heap.size + 1 + 1 + 1, i, none⟩ = false) :=
  ⟨h.rc.cell 0, h.rc.cell 1, h.rc.cell 2, h.rc.cell 3, h.rv.cell 0, h.rv.cell 1, h.rv.cell 2, h.rv.cell 3, h.rc.loose, h.rv.loose⟩
/-- The policy, the new cell with its row of hits, the verdict, and the two results. -/
structure AskX (w0 : World) (k l v b T : Int) (L : Nat) (f g : Nat → Int) (vv : Value) (gD gV : Nat) (V : List Value) (w : World) : Prop where
  p : Has w w0.heap.size 23 [.int .i64 k, .int .i64 l, .int .i64 v, .int .i64 b]
  rc : Has w (w0.heap.size + 1 + 1) 27 [.int .i64 0, .int .i64 0, .slice none 0 0, .slice none 0 0]
  rv : Has w (w0.heap.size + 1 + 1 + 1) 32 [.bool false, .int .i64 0, .int .i64 0, .int .i64 0]
  d : Has w gD 27 [.int .i64 T, .int .i64 0, .slice none 0 0, vv]
  s : OwnH w0.heap.size w vv L f g
  v : Has w gV 32 V
  n2 : gD ≠ gV
  b1 : w0.heap.size + 1 + 1 + 1 < gD
  b3 : w0.heap.size + 1 + 1 + 1 < gV
  be : Below w0.heap.size w0 w
section
variable {w0 w w' : World} {k l v b T : Int} {L : Nat} {f g : Nat → Int} {vv : Value} {gD gV : Nat} {V : List Value}
theorem AskX.step (h : AskX w0 k l v b T L f g vv gD gV V w) (hb : Below w.heap.size w w') : AskX w0 k l v b T L f g vv gD gV V w' :=
  ⟨h.p.step hb, h.rc.step hb, h.rv.step hb, h.d.step hb, h.s.below hb, h.v.step hb, h.n2, h.b1, h.b3, h.be.trans (hb.mono h.be.size)⟩
theorem AskX.drew (h : AskX w0 k l v b T L f g vv gD gV V w) : AskX w0 k l v b T L f g vv gD gV V w.drew := h.step (Below.refl _ _).drew
theorem AskX.putV (h : AskX w0 k l v b T L f g vv gD gV V w) (i : Nat) (u : Value) : AskX w0 k l v b T L f g vv gD gV (V.set i u) (w.setCell ⟨gV, i, none⟩ u) := by
  have q1 := h.b1
  have q3 := h.b3
  exact ⟨h.p.apart (p := ⟨gV, i, none⟩) (show w0.heap.size ≠ gV by omega) u, h.rc.apart (p := ⟨gV, i, none⟩) (show w0.heap.size + 1 + 1 ≠ gV by omega) u, h.rv.apart (p := ⟨gV, i, none⟩) (show w0.heap.size + 1 + 1 + 1 ≠ gV by omega) u, h.d.apart (p := ⟨gV, i, none⟩) (show gD ≠ gV from h.n2) u, ownH_set h.s (h.s.ne h.v (by decide)) i u, h.v.store i u, h.n2, q1, q3, h.be.setCell (p := ⟨gV, i, none⟩) (show w0.heap.size ≤ gV by omega) u⟩
theorem AskX.dkept (h : AskX w0 k l v b T L f g vv gD gV V w) (hk : Kept (fun c => vv.ownBlock = some c) w w') : Has w' gD 27 [.int .i64 T, .int .i64 0, .slice none 0 0, vv] := h.d.kept hk (fun e => h.s.ne h.d (by decide) gD e rfl)
theorem AskX.added (h : AskX w0 k l v b T L f g vv gD gV V w) {L' : Nat} {f' g' : Nat → Int} {v' : Value} (hk : Kept (fun c => vv.ownBlock = some c) w w') (ho : OwnH w0.heap.size w' v' L' f' g') : AskX w0 k l v b T L' f' g' v' gD gV V (w'.setCell ⟨gD, 3, none⟩ v') := by
  have q1 := h.b1
  have q3 := h.b3
  have p := h.p.kept hk (fun e => h.s.ne h.p (by decide) _ e rfl)
  have rc := h.rc.kept hk (fun e => h.s.ne h.rc (by decide) _ e rfl)
  have rv := h.rv.kept hk (fun e => h.s.ne h.rv (by decide) _ e rfl)
  have d := h.dkept hk
  have v := h.v.kept hk (fun e => h.s.ne h.v (by decide) _ e rfl)
  have be : Below w0.heap.size w0 w' := h.be.trans (hk.below h.be.size (fun c hc e => by have := (h.s.lt e).2; omega))
  exact ⟨p.apart (p := ⟨gD, 3, none⟩) (show w0.heap.size ≠ gD by omega) _, rc.apart (p := ⟨gD, 3, none⟩) (show w0.heap.size + 1 + 1 ≠ gD by omega) _, rv.apart (p := ⟨gD, 3, none⟩) (show w0.heap.size + 1 + 1 + 1 ≠ gD by omega) _, d.store 3 v', ownH_set ho (ho.ne d (by decide)) 3 v', v.apart (p := ⟨gD, 3, none⟩) (show gV ≠ gD from Ne.symm h.n2) _, h.n2, q1, q3, be.setCell (p := ⟨gD, 3, none⟩) (show w0.heap.size ≤ gD by omega) v'⟩
theorem AskX.eight (h : AskX w0 k l v b T L f g vv gD gV V w) : (w.cell? ⟨w0.heap.size, 0, none⟩ = some (.int .i64 k) ∧ w.cell? ⟨w0.heap.size, 1, none⟩ = some (.int .i64 l) ∧ w.cell? ⟨w0.heap.size, 2, none⟩ = some (.int .i64 v) ∧ w.cell? ⟨w0.heap.size, 3, none⟩ = some (.int .i64 b)) ∧ (w.cell? ⟨gD, 0, none⟩ = some (.int .i64 T) ∧ w.cell? ⟨gD, 1, none⟩ = some (.int .i64 0) ∧ w.cell? ⟨gD, 2, none⟩ = some (.slice none 0 0) ∧ w.cell? ⟨gD, 3, none⟩ = some vv) := ⟨h.p.four, h.d.four⟩
theorem AskX.res (h : AskX w0 k l v b T L f g vv gD gV V w) :
    w.cell? ⟨w0.heap.size + 1 + 1, 0, none⟩ = some (.int .i64 0) ∧ w.cell? ⟨w0.heap.size + 1 + 1, 1, none⟩ = some (.int .i64 0) ∧ w.cell? ⟨w0.heap.size + 1 + 1, 2, none⟩ = some (.slice none 0 0) ∧ w.cell? ⟨w0.heap.size + 1 + 1, 3, none⟩ = some (.slice none 0 0) ∧
    w.cell? ⟨w0.heap.size + 1 + 1 + 1, 0, none⟩ = some (.bool false) ∧ w.cell? ⟨w0.heap.size + 1 + 1 + 1, 1, none⟩ = some (.int .i64 0) ∧ w.cell? ⟨w0.heap.size + 1 + 1 + 1, 2, none⟩ = some (.int .i64 0) ∧ w.cell? ⟨w0.heap.size + 1 + 1 + 1, 3, none⟩ = some (.int .i64 0) ∧
    (∀ i, w.frozen? ⟨w0.heap.size + 1 + 1, i, none⟩ = false) ∧ (∀ i, w.frozen? ⟨w0.heap.size + 1 + 1 + 1, i, none⟩ = false) :=
  ⟨h.rc.cell 0, h.rc.cell 1, h.rc.cell 2, h.rc.cell 3, h.rv.cell 0, h.rv.cell 1, h.rv.cell 2, h.rv.cell 3, h.rc.loose, h.rv.loose⟩
end
/-- Behind Clone and the verdict's own block. -/
theorem AskAt.toX {w0 w w2 : World} {k l v b a n T : Int} {L : Nat} {x y vv : Value} {f g : Nat → Int} (h : AskAt w0 k l v b a n x y w) (hb : Below w.heap.size w w2) (ho : OwnH w.heap.size w2 vv L f g) :
    AskX w0 k l v b T L f g vv w2.heap.size (w2.heap.size + 1) [.bool false, .int .i64 0, .int .i64 2199023255552, .int .i64 0] ((w2.alloc (.cells #[.int .i64 T, .int .i64 0, .slice none 0 0, vv] 27)).alloc (.cells #[.bool false, .int .i64 0, .int .i64 2199023255552, .int .i64 0] 32)) := by
  have q := h.step hb
  have lt := q.rv.lt
  have l3 := h.rv.lt
  have bt : Below w2.heap.size w2 ((w2.alloc (.cells #[.int .i64 T, .int .i64 0, .slice none 0 0, vv] 27)).alloc (.cells #[.bool false, .int .i64 0, .int .i64 2199023255552, .int .i64 0] 32)) := ((Below.refl _ _).alloc (Nat.le_refl _) _).alloc (by simp) _
  exact ⟨q.p.step bt, q.rc.step bt, q.rv.step bt, made1 w2 27 [.int .i64 T, .int .i64 0, .slice none 0 0, vv] _, (ho.below bt).base (by omega), made2 w2 32 27 [.bool false, .int .i64 0, .int .i64 2199023255552, .int .i64 0] _, by omega, by omega, by omega, q.pc.be.trans (bt.mono q.pc.be.size)⟩
/-- What exact.Ask tells. -/
def ETold (T : Int) (L : Nat) (f g : Nat → Int) (al : Bool) (rm rt rs : Int) (w : World) (e : Ending) (w' : World) : Prop :=
  ∃ vv, e = .returned (.tuple #[.agg #[.int .i64 T, .int .i64 0, .slice none 0 0, vv], .agg #[.bool al, .int .i64 rm, .int .i64 rt, .int .i64 rs]]) ∧ OwnH w.heap.size w' vv L f g ∧ Below w.heap.size w w'
theorem has_drew {w : World} {g : Nat} {t : TypeId} {l : List Value} (h : Has w g t l) : Has w.drew g t l := h

set_option maxRecDepth 100000 in
set_option maxHeartbeats 4000000 in
theorem AskW_al (k l v b a t m T : Int) (sa ha : Option Addr) (sc n hc J L : Nat) (f g F0 G0 : Nat → Int) (w : World) (h : EP k l v b) (a1 : 0 ≤ a) (a2 : a ≤ 1099511627776) (hh : HitsAt w ha n f g) (hn : n ≤ 64) (hc1 : n ≤ hc) (hc2 : hc ≤ maxLen) (hm : MayHits l v a n f g) (t1 : 0 ≤ t) (t2 : t ≤ 1099511627776) (m1 : 1 ≤ m) (m2 : m ≤ 1048576) (hT : tmax t a = T) (hJ : firstE v T f 0 n = J) (hL : J + L = n) (hF0 : sh J f = F0) (hG0 : sh J g = G0) (bF : ∀ i, i < L → 0 ≤ F0 i ∧ F0 i ≤ 1099511627776) (bG : ∀ i, i < L → 0 ≤ G0 i ∧ G0 i ≤ 1048576) (X1 : Int) (hX1 : fstE T v F0 (kE G0 (sumF G0 L) (l - m) 0 L) = T + X1) (hml : m ≤ l) (x1 : X1 = 0) (LL : Nat) (FF GG : Nat → Int) (hA : ∀ u B vv, B ≤ u.heap.size → OwnH B u vv L F0 G0 → Calls Try.prog 26 #[vv, .agg #[.int .i64 T, .int .i64 m]] u (AddedH B vv LL FF GG u)) (hLL : LL ≤ 64) (bFF : ∀ i, i < LL → 0 ≤ FF i ∧ FF i ≤ 1099511627776) (bGG : ∀ i, i < LL → 0 ≤ GG i ∧ GG i ≤ 1048576) (N X2 : Int) (hN : sumF GG LL = N) (n0 : 0 ≤ N) (n1 : N ≤ l) (hX2 : fstE T v FF (kE GG (sumF GG LL) 0 0 LL) = T + X2) (x20 : 0 ≤ X2) (x21 : X2 ≤ 1048576) :
    Calls Try.prog 10 #[.agg #[.int .i64 k, .int .i64 l, .int .i64 v, .int .i64 b], .agg #[.int .i64 a, .int .i64 0, .slice sa 0 sc, .slice ha n hc], .int .i64 t, .int .i64 m] w (ETold T LL FF GG true (l - N) (X1) X2 w) := by
  obtain ⟨l1, l2, v1, v2⟩ := h.bd
  have tb : a ≤ T ∧ T ≤ 1099511627776 := by rw [← hT]; unfold tmax; split <;> omega
  have tmm : (t < a ∧ T = a) ∨ (a ≤ t ∧ T = t) := by rw [← hT]; unfold tmax; split <;> omega
  obtain ⟨tb1, tb2⟩ := tb
  have MK := Lib.hid (fun u (hu : Below w.heap.size w u) => May_yes k l v b a sa ha sc n hc f g u h a1 a2 (hh.below hu) (by unfold maxLen; omega) hm)
  have TK := Lib.hid (fun u => isTick_yes t u t1 t2)
  have WK := Lib.hid (fun u => Weighs_yes m u m1 m2)
  have CN := Lib.hid (fun u (hu : Below w.heap.size w u) => by
    have := counting_any k l v b T ha n hc f g u (hh.below hu) (fun i hi => by have := hm.each i hi; omega) hn hc1 hc2 v1 v2
    rw [hJ] at this
    exact this)
  have CC := Lib.hid (fun A' c' u (hu : HitsAt u A' L (sh J f) (sh J g)) => by
    have := Clone_any A' L c' (sh J f) (sh J g) u (by omega) hu
    rw [hF0, hG0] at this
    exact this)
  have F1 := Lib.hid (fun A c u (hu : OwnH w.heap.size u (.slice A L c) L F0 G0) => by
    have := fits_any k l v b T (l - m) none A 0 L c F0 G0 u hu.hits.1 bF bG (by omega) v1 v2
    rw [hX1] at this
    exact this)
  have TT := Lib.hid (fun A c u (hu : OwnH w.heap.size u (.slice A LL c) LL FF GG) => by
    have := total_any A LL c FF GG u hu.hits.1 bGG (by omega)
    rw [hN] at this
    exact this)
  have F2 := Lib.hid (fun A c u (hu : OwnH w.heap.size u (.slice A LL c) LL FF GG) => by
    have := fits_any k l v b T 0 none A 0 LL c FF GG u hu.hits.1 bFF bGG (by omega) v1 v2
    rw [hX2] at this
    exact this)
  have AD := Lib.hid hA
  clear h hm hh hT hJ hF0 hG0 bF bG hN hX2 hc1 hc2 hX1 hA bFF bGG
  have e1 : IntKind.i64.wrap (l - N) = l - N := wrap_i (by omega) (by omega)
  have e2 : IntKind.i64.wrap (T + X2 - T) = X2 := by rw [show T + X2 - T = X2 by omega]; exact wrap_i (by omega) (by omega)
  have e3 : IntKind.i64.wrap (T + X1 - T) = X1 := by rw [show T + X1 - T = X1 by omega]; exact wrap_i (by omega) (by omega)
  have xz : (X1 == 0) = true := by simp; omega
  have e4 : IntKind.i64.wrap (l - m) = l - m := wrap_i (by omega) (by omega)
  clear x1
  have HP := Lib.hid (AskAt.made w k l v b a 0 (.slice sa 0 sc) (.slice ha n hc))
  go_enter Try.func10, Try.ntmps10
  go_wp2_with fail
  refine (MK.out _ HP.out.pc.be).mono ?_; rintro e w1 ⟨rfl, hb⟩
  have HQ := Lib.hid (HP.out.step hb)
  clear hb HP MK
  obtain ⟨z0, z1, z2, z3, z4, z5, z6, z7⟩ := HQ.out.pc.eight
  go_wp2_with fail
  refine (TK.out _).mono ?_; rintro e w' ⟨rfl, rfl⟩
  go_wp2_with fail
  refine (WK.out _).mono ?_; rintro e w' ⟨rfl, rfl⟩
  go_upto_region 3 with (fail)
  go_cut [2] (fun s2 wx => s2 = .int .i64 T ∧ wx = w1)
  case first =>
    rcases tmm with ⟨q1, q2⟩ | ⟨q1, q2⟩
    · go_upto_region 4 with (fail)
      all_goals (go_meet; exact ⟨by rw [q2], rfl⟩)
    · go_upto_region 4 with (fail)
      all_goals (go_meet; exact ⟨by rw [q2], rfl⟩)
  case rest =>
  obtain ⟨rfl, rfl⟩ := hcut
  clear tmm
  go_upto_region 5 with (fail)
  refine (CN.out _ HQ.out.pc.be).mono ?_; rintro e w2 ⟨A', m', c', rfl, hj, hmc, hcc, hat, hb⟩
  obtain rfl : m' = L := by omega
  have HQ2 := Lib.hid (HQ.out.step hb)
  have CD := Lib.hid (CC.out A' c' w2 hat)
  clear hb HQ hat CC CN hj hmc hcc z0 z1 z2 z3 z4 z5 z6 z7
  go_upto_region 5 with (fail)
  refine CD.out.mono ?_; rintro e w3 ⟨vv, rfl, ho, hb3⟩
  obtain ⟨A, cap, rfl, hp1, hp2, _⟩ := ho.at_
  have hz := AskAt.toX (T := T) HQ2.out hb3 ho
  have HZ := Lib.hid hz
  clear ho hb3 HQ2 CD hp1 hp2 hz
  go_upto_region 6 with (fail)
  have hz := HZ.out
  clear HZ
  generalize hw : (w3.alloc (.cells #[.int .i64 T, .int .i64 0, .slice none 0 0, .slice A m' cap] 27)).alloc (.cells #[.bool false, .int .i64 0, .int .i64 2199023255552, .int .i64 0] 32) = wz at hz ⊢
  clear hw
  generalize w3.heap.size + 1 = gV at hz ⊢
  generalize w3.heap.size = gD at hz ⊢
  have H0 := Lib.hid hz
  clear hz
  obtain ⟨⟨j0, j1, j2, j3⟩, j4, j5, j6, j7⟩ := H0.out.eight
  obtain ⟨u0, u1, u2, u3⟩ := H0.out.v.four
  have u4 := H0.out.v.loose
  go_upto_region 8 with (fail)
  refine (F1.out A cap _ H0.out.s).mono ?_; rintro e wf ⟨rfl, hb⟩
  have H1 := Lib.hid (H0.out.step hb)
  clear hb j0 j1 j2 j3 j4 j5 j6 j7 u0 u1 u2 u3 u4 H0 F1
  obtain ⟨⟨j0, j1, j2, j3⟩, j4, j5, j6, j7⟩ := H1.out.eight
  obtain ⟨u0, u1, u2, u3⟩ := H1.out.v.four
  have u4 := H1.out.v.loose
  go_upto_region 8 with (fail)
  clear j0 j1 j2 j3 j4 j5 j6 j7 u0 u1 u2 u3 u4
  have hz := H1.out.putV 2 (.int .i64 X1)
  replace hz : AskX w k l v b T m' F0 G0 (.slice A m' cap) gD gV [.bool false, .int .i64 0, .int .i64 X1, .int .i64 0] (wf.setCell ⟨gV, 2, none⟩ (.int .i64 X1)) := hz
  generalize wf.setCell ⟨gV, 2, none⟩ (.int .i64 X1) = wg at hz ⊢
  have H2 := Lib.hid hz
  clear hz H1
  obtain ⟨⟨j0, j1, j2, j3⟩, j4, j5, j6, j7⟩ := H2.out.eight
  obtain ⟨u0, u1, u2, u3⟩ := H2.out.v.four
  have u4 := H2.out.v.loose
  go_upto_region 10 with (fail)
  clear j0 j1 j2 j3 j4 j5 j6 j7 u0 u1 u2 u3 u4
  have hz := H2.out.putV 0 (.bool true)
  replace hz : AskX w k l v b T m' F0 G0 (.slice A m' cap) gD gV [.bool true, .int .i64 0, .int .i64 X1, .int .i64 0] (wg.setCell ⟨gV, 0, none⟩ (.bool true)) := hz
  generalize wg.setCell ⟨gV, 0, none⟩ (.bool true) = wy at hz ⊢
  have H3 := Lib.hid hz
  clear hz H2
  obtain ⟨⟨j0, j1, j2, j3⟩, j4, j5, j6, j7⟩ := H3.out.eight
  obtain ⟨u0, u1, u2, u3⟩ := H3.out.v.four
  have u4 := H3.out.v.loose
  go_upto_region 11 with (fail)
  refine (AD.out _ w.heap.size _ H3.out.be.size H3.out.s).mono ?_; rintro e wa ⟨v', rfl, ho, hk⟩
  obtain ⟨A2, cap2, rfl, hp1, hp2, _⟩ := ho.at_
  have u5 := (H3.out.dkept hk).loose
  have u6 := (H3.out.dkept hk).cell 3
  have hz := H3.out.added hk ho
  have HZ := Lib.hid hz
  clear ho hk hp1 hp2 hz H3 AD j0 j1 j2 j3 j4 j5 j6 j7 u0 u1 u2 u3 u4
  go_upto_region 11 with (fail)
  have hz := HZ.out
  clear HZ u5 u6
  generalize wa.setCell ⟨gD, 3, none⟩ (.slice A2 LL cap2) = wb at hz ⊢
  have H4 := Lib.hid hz
  clear hz
  go_cut [] (fun wx => AskX w k l v b T LL FF GG (.slice A2 LL cap2) gD gV [.bool true, .int .i64 (l - N), .int .i64 X1, .int .i64 0] wx)
  case first =>
    go_region_held3 (fun w' => (w'.cell? ⟨w.heap.size, 0, none⟩ = some (.int .i64 k) ∧ w'.cell? ⟨w.heap.size, 1, none⟩ = some (.int .i64 l) ∧ w'.cell? ⟨w.heap.size, 2, none⟩ = some (.int .i64 v) ∧ w'.cell? ⟨w.heap.size, 3, none⟩ = some (.int .i64 b)) ∧ (w'.cell? ⟨gD, 0, none⟩ = some (.int .i64 T) ∧ w'.cell? ⟨gD, 1, none⟩ = some (.int .i64 0) ∧ w'.cell? ⟨gD, 2, none⟩ = some (.slice none 0 0) ∧ w'.cell? ⟨gD, 3, none⟩ = some (.slice A2 LL cap2))) (first | (with_reducible exact H4.out.eight) | (with_reducible exact H4.out.drew.eight) | (with_reducible exact H5.out.eight) | (with_reducible exact (H5.out.putV _ _).eight) | go_keep) (first | (go_at_call 27; (with_reducible refine (TT.out A2 cap2 _ H4.out.drew.s).mono ?_); rintro e w5 ⟨rfl, hb⟩; have H5 := Lib.hid (H4.out.drew.step hb); have u4 := H5.out.v.loose; obtain ⟨u0, u1, u2, u3⟩ := H5.out.v.four; clear hb))
    all_goals (go_upto_region 12 with (fail); go_meet; exact H5.out.putV 1 (.int .i64 (l - N)))
  case rest =>
  have H6 := Lib.hid hcut
  clear hcut H4 TT
  obtain ⟨⟨j0, j1, j2, j3⟩, j4, j5, j6, j7⟩ := H6.out.eight
  obtain ⟨u0, u1, u2, u3⟩ := H6.out.v.four
  have u4 := H6.out.v.loose
  go_upto_region 13 with (fail)
  refine (F2.out A2 cap2 _ H6.out.s).mono ?_; rintro e w7 ⟨rfl, hb⟩
  have H7 := Lib.hid (H6.out.step hb)
  clear hb j0 j1 j2 j3 j4 j5 j6 j7 u0 u1 u2 u3 u4 H6 F2
  obtain ⟨⟨j0, j1, j2, j3⟩, j4, j5, j6, j7⟩ := H7.out.eight
  obtain ⟨u0, u1, u2, u3⟩ := H7.out.v.four
  have u4 := H7.out.v.loose
  go_upto_region 13 with (fail)
  clear j0 j1 j2 j3 j4 j5 j6 j7 u0 u1 u2 u3 u4
  have hz := H7.out.putV 3 (.int .i64 X2)
  replace hz : AskX w k l v b T LL FF GG (.slice A2 LL cap2) gD gV [.bool true, .int .i64 (l - N), .int .i64 X1, .int .i64 X2] (w7.setCell ⟨gV, 3, none⟩ (.int .i64 X2)) := hz
  generalize w7.setCell ⟨gV, 3, none⟩ (.int .i64 X2) = w8 at hz ⊢
  have H8 := Lib.hid hz
  clear hz H7
  obtain ⟨⟨j0, j1, j2, j3⟩, j4, j5, j6, j7⟩ := H8.out.eight
  obtain ⟨u0, u1, u2, u3⟩ := H8.out.v.four
  obtain ⟨r0, r1, r2, r3, r4, r5, r6, r7, r8, r9⟩ := H8.out.res
  have g0 : gD ≠ w.heap.size + 1 + 1 := by have := H8.out.b1; omega
  have g1 : gD ≠ w.heap.size + 1 + 1 + 1 := by have := H8.out.b1; omega
  have g2 : gV ≠ w.heap.size + 1 + 1 := by have := H8.out.b3; omega
  have g3 : gV ≠ w.heap.size + 1 + 1 + 1 := by have := H8.out.b3; omega
  have g4 := Lib.hid (H8.out.s.ne H8.out.rc (by decide))
  have g5 := Lib.hid (H8.out.s.ne H8.out.rv (by decide))
  go_region
  all_goals go_wp2_with fail
  all_goals refine bodyPost_ret (v := .tuple #[.agg #[.int .i64 T, .int .i64 0, .slice none 0 0, .slice A2 LL cap2], .agg #[.bool true, .int .i64 (l - N), .int .i64 X1, .int .i64 X2]]) (by simp [results, Try.results10, go_sem, r0, r1, r2, r3, r4, r5, r6, r7]) rfl ⟨_, rfl, ?_, ?_⟩
  all_goals repeat (first | with_reducible exact H8.out.be | with_reducible exact H8.out.s | with_reducible (refine Below.setCell ?_ (le3 _) _) | with_reducible (refine Below.setCell ?_ (le2 _) _) | with_reducible refine Below.drew ?_ | with_reducible refine ownH_drew ?_ | with_reducible (refine ownH_set ?_ g4.out _ _) | with_reducible (refine ownH_set ?_ g5.out _ _))

set_option maxRecDepth 100000 in
set_option maxHeartbeats 4000000 in
theorem AskW_re (k l v b a t m T : Int) (sa ha : Option Addr) (sc n hc J L : Nat) (f g F0 G0 : Nat → Int) (w : World) (h : EP k l v b) (a1 : 0 ≤ a) (a2 : a ≤ 1099511627776) (hh : HitsAt w ha n f g) (hn : n ≤ 64) (hc1 : n ≤ hc) (hc2 : hc ≤ maxLen) (hm : MayHits l v a n f g) (t1 : 0 ≤ t) (t2 : t ≤ 1099511627776) (m1 : 1 ≤ m) (m2 : m ≤ 1048576) (hT : tmax t a = T) (hJ : firstE v T f 0 n = J) (hL : J + L = n) (hF0 : sh J f = F0) (hG0 : sh J g = G0) (bF : ∀ i, i < L → 0 ≤ F0 i ∧ F0 i ≤ 1099511627776) (bG : ∀ i, i < L → 0 ≤ G0 i ∧ G0 i ≤ 1048576) (X1 : Int) (hX1 : fstE T v F0 (kE G0 (sumF G0 L) (l - m) 0 L) = T + X1) (hml : m ≤ l) (x1 : 0 < X1) (x1b : X1 ≤ 1048576) (N X2 : Int) (hN : sumF G0 L = N) (n0 : 0 ≤ N) (n1 : N ≤ l) (hX2 : fstE T v F0 (kE G0 (sumF G0 L) 0 0 L) = T + X2) (x20 : 0 ≤ X2) (x21 : X2 ≤ 1048576) :
    Calls Try.prog 10 #[.agg #[.int .i64 k, .int .i64 l, .int .i64 v, .int .i64 b], .agg #[.int .i64 a, .int .i64 0, .slice sa 0 sc, .slice ha n hc], .int .i64 t, .int .i64 m] w (ETold T L F0 G0 false (l - N) (X1) X2 w) := by
  obtain ⟨l1, l2, v1, v2⟩ := h.bd
  have tb : a ≤ T ∧ T ≤ 1099511627776 := by rw [← hT]; unfold tmax; split <;> omega
  have tmm : (t < a ∧ T = a) ∨ (a ≤ t ∧ T = t) := by rw [← hT]; unfold tmax; split <;> omega
  obtain ⟨tb1, tb2⟩ := tb
  have MK := Lib.hid (fun u (hu : Below w.heap.size w u) => May_yes k l v b a sa ha sc n hc f g u h a1 a2 (hh.below hu) (by unfold maxLen; omega) hm)
  have TK := Lib.hid (fun u => isTick_yes t u t1 t2)
  have WK := Lib.hid (fun u => Weighs_yes m u m1 m2)
  have CN := Lib.hid (fun u (hu : Below w.heap.size w u) => by
    have := counting_any k l v b T ha n hc f g u (hh.below hu) (fun i hi => by have := hm.each i hi; omega) hn hc1 hc2 v1 v2
    rw [hJ] at this
    exact this)
  have CC := Lib.hid (fun A' c' u (hu : HitsAt u A' L (sh J f) (sh J g)) => by
    have := Clone_any A' L c' (sh J f) (sh J g) u (by omega) hu
    rw [hF0, hG0] at this
    exact this)
  have F1 := Lib.hid (fun A c u (hu : OwnH w.heap.size u (.slice A L c) L F0 G0) => by
    have := fits_any k l v b T (l - m) none A 0 L c F0 G0 u hu.hits.1 bF bG (by omega) v1 v2
    rw [hX1] at this
    exact this)
  have TT := Lib.hid (fun A c u (hu : OwnH w.heap.size u (.slice A L c) L F0 G0) => by
    have := total_any A L c F0 G0 u hu.hits.1 bG (by omega)
    rw [hN] at this
    exact this)
  have F2 := Lib.hid (fun A c u (hu : OwnH w.heap.size u (.slice A L c) L F0 G0) => by
    have := fits_any k l v b T 0 none A 0 L c F0 G0 u hu.hits.1 bF bG (by omega) v1 v2
    rw [hX2] at this
    exact this)
  clear h hm hh hT hJ hF0 hG0 bF bG hN hX2 hc1 hc2 hX1
  have e1 : IntKind.i64.wrap (l - N) = l - N := wrap_i (by omega) (by omega)
  have e2 : IntKind.i64.wrap (T + X2 - T) = X2 := by rw [show T + X2 - T = X2 by omega]; exact wrap_i (by omega) (by omega)
  have e3 : IntKind.i64.wrap (T + X1 - T) = X1 := by rw [show T + X1 - T = X1 by omega]; exact wrap_i (by omega) (by omega)
  have xz : (X1 == 0) = false := by simp; omega
  have e4 : IntKind.i64.wrap (l - m) = l - m := wrap_i (by omega) (by omega)
  have HP := Lib.hid (AskAt.made w k l v b a 0 (.slice sa 0 sc) (.slice ha n hc))
  go_enter Try.func10, Try.ntmps10
  go_wp2_with fail
  refine (MK.out _ HP.out.pc.be).mono ?_; rintro e w1 ⟨rfl, hb⟩
  have HQ := Lib.hid (HP.out.step hb)
  clear hb HP MK
  obtain ⟨z0, z1, z2, z3, z4, z5, z6, z7⟩ := HQ.out.pc.eight
  go_wp2_with fail
  refine (TK.out _).mono ?_; rintro e w' ⟨rfl, rfl⟩
  go_wp2_with fail
  refine (WK.out _).mono ?_; rintro e w' ⟨rfl, rfl⟩
  go_upto_region 3 with (fail)
  go_cut [2] (fun s2 wx => s2 = .int .i64 T ∧ wx = w1)
  case first =>
    rcases tmm with ⟨q1, q2⟩ | ⟨q1, q2⟩
    · go_upto_region 4 with (fail)
      all_goals (go_meet; exact ⟨by rw [q2], rfl⟩)
    · go_upto_region 4 with (fail)
      all_goals (go_meet; exact ⟨by rw [q2], rfl⟩)
  case rest =>
  obtain ⟨rfl, rfl⟩ := hcut
  clear tmm
  go_upto_region 5 with (fail)
  refine (CN.out _ HQ.out.pc.be).mono ?_; rintro e w2 ⟨A', m', c', rfl, hj, hmc, hcc, hat, hb⟩
  obtain rfl : m' = L := by omega
  have HQ2 := Lib.hid (HQ.out.step hb)
  have CD := Lib.hid (CC.out A' c' w2 hat)
  clear hb HQ hat CC CN hj hmc hcc z0 z1 z2 z3 z4 z5 z6 z7
  go_upto_region 5 with (fail)
  refine CD.out.mono ?_; rintro e w3 ⟨vv, rfl, ho, hb3⟩
  obtain ⟨A, cap, rfl, hp1, hp2, _⟩ := ho.at_
  have hz := AskAt.toX (T := T) HQ2.out hb3 ho
  have HZ := Lib.hid hz
  clear ho hb3 HQ2 CD hp1 hp2 hz
  go_upto_region 6 with (fail)
  have hz := HZ.out
  clear HZ
  generalize hw : (w3.alloc (.cells #[.int .i64 T, .int .i64 0, .slice none 0 0, .slice A m' cap] 27)).alloc (.cells #[.bool false, .int .i64 0, .int .i64 2199023255552, .int .i64 0] 32) = wz at hz ⊢
  clear hw
  generalize w3.heap.size + 1 = gV at hz ⊢
  generalize w3.heap.size = gD at hz ⊢
  have H0 := Lib.hid hz
  clear hz
  obtain ⟨⟨j0, j1, j2, j3⟩, j4, j5, j6, j7⟩ := H0.out.eight
  obtain ⟨u0, u1, u2, u3⟩ := H0.out.v.four
  have u4 := H0.out.v.loose
  go_upto_region 8 with (fail)
  refine (F1.out A cap _ H0.out.s).mono ?_; rintro e wf ⟨rfl, hb⟩
  have H1 := Lib.hid (H0.out.step hb)
  clear hb j0 j1 j2 j3 j4 j5 j6 j7 u0 u1 u2 u3 u4 H0 F1
  obtain ⟨⟨j0, j1, j2, j3⟩, j4, j5, j6, j7⟩ := H1.out.eight
  obtain ⟨u0, u1, u2, u3⟩ := H1.out.v.four
  have u4 := H1.out.v.loose
  go_upto_region 8 with (fail)
  clear j0 j1 j2 j3 j4 j5 j6 j7 u0 u1 u2 u3 u4
  have hz := H1.out.putV 2 (.int .i64 X1)
  replace hz : AskX w k l v b T m' F0 G0 (.slice A m' cap) gD gV [.bool false, .int .i64 0, .int .i64 X1, .int .i64 0] (wf.setCell ⟨gV, 2, none⟩ (.int .i64 X1)) := hz
  generalize wf.setCell ⟨gV, 2, none⟩ (.int .i64 X1) = wg at hz ⊢
  have H2 := Lib.hid hz
  clear hz H1
  obtain ⟨⟨j0, j1, j2, j3⟩, j4, j5, j6, j7⟩ := H2.out.eight
  obtain ⟨u0, u1, u2, u3⟩ := H2.out.v.four
  have u4 := H2.out.v.loose
  go_upto_region 11 with (fail)
  clear j0 j1 j2 j3 j4 j5 j6 j7 u0 u1 u2 u3 u4
  have hz := H2.out.putV 0 (.bool false)
  replace hz : AskX w k l v b T m' F0 G0 (.slice A m' cap) gD gV [.bool false, .int .i64 0, .int .i64 X1, .int .i64 0] (wg.setCell ⟨gV, 0, none⟩ (.bool false)) := hz
  generalize wg.setCell ⟨gV, 0, none⟩ (.bool false) = wy at hz ⊢
  have H3 := Lib.hid hz
  clear hz H2
  have H4 := H3
  clear H3
  go_cut [] (fun wx => AskX w k l v b T m' F0 G0 (.slice A m' cap) gD gV [.bool false, .int .i64 (l - N), .int .i64 X1, .int .i64 0] wx)
  case first =>
    go_region_held3 (fun w' => (w'.cell? ⟨w.heap.size, 0, none⟩ = some (.int .i64 k) ∧ w'.cell? ⟨w.heap.size, 1, none⟩ = some (.int .i64 l) ∧ w'.cell? ⟨w.heap.size, 2, none⟩ = some (.int .i64 v) ∧ w'.cell? ⟨w.heap.size, 3, none⟩ = some (.int .i64 b)) ∧ (w'.cell? ⟨gD, 0, none⟩ = some (.int .i64 T) ∧ w'.cell? ⟨gD, 1, none⟩ = some (.int .i64 0) ∧ w'.cell? ⟨gD, 2, none⟩ = some (.slice none 0 0) ∧ w'.cell? ⟨gD, 3, none⟩ = some (.slice A m' cap))) (first | (with_reducible exact H4.out.eight) | (with_reducible exact H4.out.drew.eight) | (with_reducible exact H5.out.eight) | (with_reducible exact (H5.out.putV _ _).eight) | go_keep) (first | (go_at_call 27; (with_reducible refine (TT.out A cap _ H4.out.drew.s).mono ?_); rintro e w5 ⟨rfl, hb⟩; have H5 := Lib.hid (H4.out.drew.step hb); have u4 := H5.out.v.loose; obtain ⟨u0, u1, u2, u3⟩ := H5.out.v.four; clear hb))
    all_goals (go_upto_region 12 with (fail); go_meet; exact H5.out.putV 1 (.int .i64 (l - N)))
  case rest =>
  have H6 := Lib.hid hcut
  clear hcut H4 TT
  obtain ⟨⟨j0, j1, j2, j3⟩, j4, j5, j6, j7⟩ := H6.out.eight
  obtain ⟨u0, u1, u2, u3⟩ := H6.out.v.four
  have u4 := H6.out.v.loose
  go_upto_region 13 with (fail)
  refine (F2.out A cap _ H6.out.s).mono ?_; rintro e w7 ⟨rfl, hb⟩
  have H7 := Lib.hid (H6.out.step hb)
  clear hb j0 j1 j2 j3 j4 j5 j6 j7 u0 u1 u2 u3 u4 H6 F2
  obtain ⟨⟨j0, j1, j2, j3⟩, j4, j5, j6, j7⟩ := H7.out.eight
  obtain ⟨u0, u1, u2, u3⟩ := H7.out.v.four
  have u4 := H7.out.v.loose
  go_upto_region 13 with (fail)
  clear j0 j1 j2 j3 j4 j5 j6 j7 u0 u1 u2 u3 u4
  have hz := H7.out.putV 3 (.int .i64 X2)
  replace hz : AskX w k l v b T m' F0 G0 (.slice A m' cap) gD gV [.bool false, .int .i64 (l - N), .int .i64 X1, .int .i64 X2] (w7.setCell ⟨gV, 3, none⟩ (.int .i64 X2)) := hz
  generalize w7.setCell ⟨gV, 3, none⟩ (.int .i64 X2) = w8 at hz ⊢
  have H8 := Lib.hid hz
  clear hz H7
  obtain ⟨⟨j0, j1, j2, j3⟩, j4, j5, j6, j7⟩ := H8.out.eight
  obtain ⟨u0, u1, u2, u3⟩ := H8.out.v.four
  obtain ⟨r0, r1, r2, r3, r4, r5, r6, r7, r8, r9⟩ := H8.out.res
  have g0 : gD ≠ w.heap.size + 1 + 1 := by have := H8.out.b1; omega
  have g1 : gD ≠ w.heap.size + 1 + 1 + 1 := by have := H8.out.b1; omega
  have g2 : gV ≠ w.heap.size + 1 + 1 := by have := H8.out.b3; omega
  have g3 : gV ≠ w.heap.size + 1 + 1 + 1 := by have := H8.out.b3; omega
  have g4 := Lib.hid (H8.out.s.ne H8.out.rc (by decide))
  have g5 := Lib.hid (H8.out.s.ne H8.out.rv (by decide))
  go_region
  all_goals go_wp2_with fail
  all_goals refine bodyPost_ret (v := .tuple #[.agg #[.int .i64 T, .int .i64 0, .slice none 0 0, .slice A m' cap], .agg #[.bool false, .int .i64 (l - N), .int .i64 X1, .int .i64 X2]]) (by simp [results, Try.results10, go_sem, r0, r1, r2, r3, r4, r5, r6, r7]) rfl ⟨_, rfl, ?_, ?_⟩
  all_goals repeat (first | with_reducible exact H8.out.be | with_reducible exact H8.out.s | with_reducible (refine Below.setCell ?_ (le3 _) _) | with_reducible (refine Below.setCell ?_ (le2 _) _) | with_reducible refine Below.drew ?_ | with_reducible refine ownH_drew ?_ | with_reducible (refine ownH_set ?_ g4.out _ _) | with_reducible (refine ownH_set ?_ g5.out _ _))

set_option maxRecDepth 100000 in
set_option maxHeartbeats 4000000 in
theorem AskW_nv (k l v b a t m T : Int) (sa ha : Option Addr) (sc n hc J L : Nat) (f g F0 G0 : Nat → Int) (w : World) (h : EP k l v b) (a1 : 0 ≤ a) (a2 : a ≤ 1099511627776) (hh : HitsAt w ha n f g) (hn : n ≤ 64) (hc1 : n ≤ hc) (hc2 : hc ≤ maxLen) (hm : MayHits l v a n f g) (t1 : 0 ≤ t) (t2 : t ≤ 1099511627776) (m1 : 1 ≤ m) (m2 : m ≤ 1048576) (hT : tmax t a = T) (hJ : firstE v T f 0 n = J) (hL : J + L = n) (hF0 : sh J f = F0) (hG0 : sh J g = G0) (bF : ∀ i, i < L → 0 ≤ F0 i ∧ F0 i ≤ 1099511627776) (bG : ∀ i, i < L → 0 ≤ G0 i ∧ G0 i ≤ 1048576) (hml : l < m) (N X2 : Int) (hN : sumF G0 L = N) (n0 : 0 ≤ N) (n1 : N ≤ l) (hX2 : fstE T v F0 (kE G0 (sumF G0 L) 0 0 L) = T + X2) (x20 : 0 ≤ X2) (x21 : X2 ≤ 1048576) :
    Calls Try.prog 10 #[.agg #[.int .i64 k, .int .i64 l, .int .i64 v, .int .i64 b], .agg #[.int .i64 a, .int .i64 0, .slice sa 0 sc, .slice ha n hc], .int .i64 t, .int .i64 m] w (ETold T L F0 G0 false (l - N) (2199023255552) X2 w) := by
  obtain ⟨l1, l2, v1, v2⟩ := h.bd
  have tb : a ≤ T ∧ T ≤ 1099511627776 := by rw [← hT]; unfold tmax; split <;> omega
  have tmm : (t < a ∧ T = a) ∨ (a ≤ t ∧ T = t) := by rw [← hT]; unfold tmax; split <;> omega
  obtain ⟨tb1, tb2⟩ := tb
  have MK := Lib.hid (fun u (hu : Below w.heap.size w u) => May_yes k l v b a sa ha sc n hc f g u h a1 a2 (hh.below hu) (by unfold maxLen; omega) hm)
  have TK := Lib.hid (fun u => isTick_yes t u t1 t2)
  have WK := Lib.hid (fun u => Weighs_yes m u m1 m2)
  have CN := Lib.hid (fun u (hu : Below w.heap.size w u) => by
    have := counting_any k l v b T ha n hc f g u (hh.below hu) (fun i hi => by have := hm.each i hi; omega) hn hc1 hc2 v1 v2
    rw [hJ] at this
    exact this)
  have CC := Lib.hid (fun A' c' u (hu : HitsAt u A' L (sh J f) (sh J g)) => by
    have := Clone_any A' L c' (sh J f) (sh J g) u (by omega) hu
    rw [hF0, hG0] at this
    exact this)
  have TT := Lib.hid (fun A c u (hu : OwnH w.heap.size u (.slice A L c) L F0 G0) => by
    have := total_any A L c F0 G0 u hu.hits.1 bG (by omega)
    rw [hN] at this
    exact this)
  have F2 := Lib.hid (fun A c u (hu : OwnH w.heap.size u (.slice A L c) L F0 G0) => by
    have := fits_any k l v b T 0 none A 0 L c F0 G0 u hu.hits.1 bF bG (by omega) v1 v2
    rw [hX2] at this
    exact this)
  clear h hm hh hT hJ hF0 hG0 bF bG hN hX2 hc1 hc2
  have e1 : IntKind.i64.wrap (l - N) = l - N := wrap_i (by omega) (by omega)
  have e2 : IntKind.i64.wrap (T + X2 - T) = X2 := by rw [show T + X2 - T = X2 by omega]; exact wrap_i (by omega) (by omega)
  have HP := Lib.hid (AskAt.made w k l v b a 0 (.slice sa 0 sc) (.slice ha n hc))
  go_enter Try.func10, Try.ntmps10
  go_wp2_with fail
  refine (MK.out _ HP.out.pc.be).mono ?_; rintro e w1 ⟨rfl, hb⟩
  have HQ := Lib.hid (HP.out.step hb)
  clear hb HP MK
  obtain ⟨z0, z1, z2, z3, z4, z5, z6, z7⟩ := HQ.out.pc.eight
  go_wp2_with fail
  refine (TK.out _).mono ?_; rintro e w' ⟨rfl, rfl⟩
  go_wp2_with fail
  refine (WK.out _).mono ?_; rintro e w' ⟨rfl, rfl⟩
  go_upto_region 3 with (fail)
  go_cut [2] (fun s2 wx => s2 = .int .i64 T ∧ wx = w1)
  case first =>
    rcases tmm with ⟨q1, q2⟩ | ⟨q1, q2⟩
    · go_upto_region 4 with (fail)
      all_goals (go_meet; exact ⟨by rw [q2], rfl⟩)
    · go_upto_region 4 with (fail)
      all_goals (go_meet; exact ⟨by rw [q2], rfl⟩)
  case rest =>
  obtain ⟨rfl, rfl⟩ := hcut
  clear tmm
  go_upto_region 5 with (fail)
  refine (CN.out _ HQ.out.pc.be).mono ?_; rintro e w2 ⟨A', m', c', rfl, hj, hmc, hcc, hat, hb⟩
  obtain rfl : m' = L := by omega
  have HQ2 := Lib.hid (HQ.out.step hb)
  have CD := Lib.hid (CC.out A' c' w2 hat)
  clear hb HQ hat CC CN hj hmc hcc z0 z1 z2 z3 z4 z5 z6 z7
  go_upto_region 5 with (fail)
  refine CD.out.mono ?_; rintro e w3 ⟨vv, rfl, ho, hb3⟩
  obtain ⟨A, cap, rfl, hp1, hp2, _⟩ := ho.at_
  have hz := AskAt.toX (T := T) HQ2.out hb3 ho
  have HZ := Lib.hid hz
  clear ho hb3 HQ2 CD hp1 hp2 hz
  go_upto_region 6 with (fail)
  have hz := HZ.out
  clear HZ
  generalize hw : (w3.alloc (.cells #[.int .i64 T, .int .i64 0, .slice none 0 0, .slice A m' cap] 27)).alloc (.cells #[.bool false, .int .i64 0, .int .i64 2199023255552, .int .i64 0] 32) = wz at hz ⊢
  clear hw
  generalize w3.heap.size + 1 = gV at hz ⊢
  generalize w3.heap.size = gD at hz ⊢
  have H0 := Lib.hid hz
  clear hz
  obtain ⟨⟨j0, j1, j2, j3⟩, j4, j5, j6, j7⟩ := H0.out.eight
  obtain ⟨u0, u1, u2, u3⟩ := H0.out.v.four
  have u4 := H0.out.v.loose
  go_upto_region 11 with (fail)
  clear j0 j1 j2 j3 j4 j5 j6 j7 u0 u1 u2 u3 u4
  have hz := H0.out.putV 0 (.bool false)
  replace hz : AskX w k l v b T m' F0 G0 (.slice A m' cap) gD gV [.bool false, .int .i64 0, .int .i64 2199023255552, .int .i64 0] (wz.setCell ⟨gV, 0, none⟩ (.bool false)) := hz
  generalize wz.setCell ⟨gV, 0, none⟩ (.bool false) = wy at hz ⊢
  have H4 := Lib.hid hz
  clear hz H0
  go_cut [] (fun wx => AskX w k l v b T m' F0 G0 (.slice A m' cap) gD gV [.bool false, .int .i64 (l - N), .int .i64 2199023255552, .int .i64 0] wx)
  case first =>
    go_region_held3 (fun w' => (w'.cell? ⟨w.heap.size, 0, none⟩ = some (.int .i64 k) ∧ w'.cell? ⟨w.heap.size, 1, none⟩ = some (.int .i64 l) ∧ w'.cell? ⟨w.heap.size, 2, none⟩ = some (.int .i64 v) ∧ w'.cell? ⟨w.heap.size, 3, none⟩ = some (.int .i64 b)) ∧ (w'.cell? ⟨gD, 0, none⟩ = some (.int .i64 T) ∧ w'.cell? ⟨gD, 1, none⟩ = some (.int .i64 0) ∧ w'.cell? ⟨gD, 2, none⟩ = some (.slice none 0 0) ∧ w'.cell? ⟨gD, 3, none⟩ = some (.slice A m' cap))) (first | (with_reducible exact H4.out.eight) | (with_reducible exact H4.out.drew.eight) | (with_reducible exact H5.out.eight) | (with_reducible exact (H5.out.putV _ _).eight) | go_keep) (first | (go_at_call 27; (with_reducible refine (TT.out A cap _ H4.out.drew.s).mono ?_); rintro e w5 ⟨rfl, hb⟩; have H5 := Lib.hid (H4.out.drew.step hb); have u4 := H5.out.v.loose; obtain ⟨u0, u1, u2, u3⟩ := H5.out.v.four; clear hb))
    all_goals (go_upto_region 12 with (fail); go_meet; exact H5.out.putV 1 (.int .i64 (l - N)))
  case rest =>
  have H6 := Lib.hid hcut
  clear hcut H4 TT
  obtain ⟨⟨j0, j1, j2, j3⟩, j4, j5, j6, j7⟩ := H6.out.eight
  obtain ⟨u0, u1, u2, u3⟩ := H6.out.v.four
  have u4 := H6.out.v.loose
  go_upto_region 13 with (fail)
  refine (F2.out A cap _ H6.out.s).mono ?_; rintro e w7 ⟨rfl, hb⟩
  have H7 := Lib.hid (H6.out.step hb)
  clear hb j0 j1 j2 j3 j4 j5 j6 j7 u0 u1 u2 u3 u4 H6 F2
  obtain ⟨⟨j0, j1, j2, j3⟩, j4, j5, j6, j7⟩ := H7.out.eight
  obtain ⟨u0, u1, u2, u3⟩ := H7.out.v.four
  have u4 := H7.out.v.loose
  go_upto_region 13 with (fail)
  clear j0 j1 j2 j3 j4 j5 j6 j7 u0 u1 u2 u3 u4
  have hz := H7.out.putV 3 (.int .i64 X2)
  replace hz : AskX w k l v b T m' F0 G0 (.slice A m' cap) gD gV [.bool false, .int .i64 (l - N), .int .i64 2199023255552, .int .i64 X2] (w7.setCell ⟨gV, 3, none⟩ (.int .i64 X2)) := hz
  generalize w7.setCell ⟨gV, 3, none⟩ (.int .i64 X2) = w8 at hz ⊢
  have H8 := Lib.hid hz
  clear hz H7
  obtain ⟨⟨j0, j1, j2, j3⟩, j4, j5, j6, j7⟩ := H8.out.eight
  obtain ⟨u0, u1, u2, u3⟩ := H8.out.v.four
  obtain ⟨r0, r1, r2, r3, r4, r5, r6, r7, r8, r9⟩ := H8.out.res
  have g0 : gD ≠ w.heap.size + 1 + 1 := by have := H8.out.b1; omega
  have g1 : gD ≠ w.heap.size + 1 + 1 + 1 := by have := H8.out.b1; omega
  have g2 : gV ≠ w.heap.size + 1 + 1 := by have := H8.out.b3; omega
  have g3 : gV ≠ w.heap.size + 1 + 1 + 1 := by have := H8.out.b3; omega
  have g4 := Lib.hid (H8.out.s.ne H8.out.rc (by decide))
  have g5 := Lib.hid (H8.out.s.ne H8.out.rv (by decide))
  go_region
  all_goals go_wp2_with fail
  all_goals refine bodyPost_ret (v := .tuple #[.agg #[.int .i64 T, .int .i64 0, .slice none 0 0, .slice A m' cap], .agg #[.bool false, .int .i64 (l - N), .int .i64 2199023255552, .int .i64 X2]]) (by simp [results, Try.results10, go_sem, r0, r1, r2, r3, r4, r5, r6, r7]) rfl ⟨_, rfl, ?_, ?_⟩
  all_goals repeat (first | with_reducible exact H8.out.be | with_reducible exact H8.out.s | with_reducible (refine Below.setCell ?_ (le3 _) _) | with_reducible (refine Below.setCell ?_ (le2 _) _) | with_reducible refine Below.drew ?_ | with_reducible refine ownH_drew ?_ | with_reducible (refine ownH_set ?_ g4.out _ _) | with_reducible (refine ownH_set ?_ g5.out _ _))
end Go.Proofs.Ytgdcgilhaedbmaa
