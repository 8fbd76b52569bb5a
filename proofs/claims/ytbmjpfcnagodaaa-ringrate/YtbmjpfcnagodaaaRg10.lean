/- When no more than so much counts of a ring: the contract of fits. -/
import Derived.Test.YtbmjpfcnagodaaaRgPure3
import Derived.Test.YtbmjpfcnagodaaaCel1
import Derived.Sort.CutIn
namespace Go.Proofs.Ytbmjpfcnagodaaa
open Go.ChangeShapes Go.WideShapes Go.ChangeAt Go.RowKit Go.Shelf
set_option linter.unusedVariables false
attribute [local go_sem] Oper.semAt_some

/-- What lies in memory while fits goes on. -/
structure FitB (w0 : World) (k l v b a : Int) (x y : Value) (most first left : Int) (g7 g8 : Nat) (w : World) : Prop where
  p : Has w w0.heap.size 23 [.int .i64 k, .int .i64 l, .int .i64 v, .int .i64 b]
  c : Has w (w0.heap.size + 1) 27 [.int .i64 a, .int .i64 0, x, y]
  m : Boxed w (w0.heap.size + 1 + 1) 3 (.int .i64 most)
  f : Boxed w g7 3 (.int .i64 first)
  l : Boxed w g8 3 (.int .i64 left)
  ne : g7 ≠ g8
  n7 : w0.heap.size + 1 + 1 + 1 ≤ g7
  n8 : w0.heap.size + 1 + 1 + 1 ≤ g8
  be : Below w0.heap.size w0 w
/-- Ahead of the two numbers. -/
structure Fit0 (w0 : World) (k l v b a : Int) (x y : Value) (most : Int) (w : World) : Prop where
  p : Has w w0.heap.size 23 [.int .i64 k, .int .i64 l, .int .i64 v, .int .i64 b]
  c : Has w (w0.heap.size + 1) 27 [.int .i64 a, .int .i64 0, x, y]
  m : Boxed w (w0.heap.size + 1 + 1) 3 (.int .i64 most)
  be : Below w0.heap.size w0 w
theorem box_step {w w' : World} {g : Nat} {t : TypeId} {u : Value} (h : Boxed w g t u) (hb : Below w.heap.size w w') : Boxed w' g t u := Has.step (l := [u]) h hb
theorem Fit0.made (w : World) (k l v b a : Int) (x y : Value) (most : Int) : Fit0 w k l v b a x y most (((w.alloc (.cells #[.int .i64 k, .int .i64 l, .int .i64 v, .int .i64 b] 23)).alloc (.cells #[.int .i64 a, .int .i64 0, x, y] 27)).alloc (.cells #[.int .i64 most] 3)) := by
  refine ⟨((Has.made w 23 [.int .i64 k, .int .i64 l, .int .i64 v, .int .i64 b]).alloc _).alloc _, Has.alloc ?_ _, ?_, (((Below.refl _ _).alloc (Nat.le_refl _) _).alloc (by simp) _).alloc (by simp; omega) _⟩
  · have := Has.made (w.alloc (.cells #[.int .i64 k, .int .i64 l, .int .i64 v, .int .i64 b] 23)) 27 [.int .i64 a, .int .i64 0, x, y]
    simpa using this
  · have := Has.made ((w.alloc (.cells #[.int .i64 k, .int .i64 l, .int .i64 v, .int .i64 b] 23)).alloc (.cells #[.int .i64 a, .int .i64 0, x, y] 27)) 3 [.int .i64 most]
    rw [World.size_alloc, World.size_alloc] at this
    exact this
section
variable {w0 w w' : World} {k l v b a : Int} {x y : Value} {most first left : Int} {g7 g8 : Nat}
theorem Fit0.step (h : Fit0 w0 k l v b a x y most w) (hb : Below w.heap.size w w') : Fit0 w0 k l v b a x y most w' :=
  ⟨h.p.step hb, h.c.step hb, box_step h.m hb, h.be.trans (hb.mono h.be.size)⟩
theorem Fit0.drew (h : Fit0 w0 k l v b a x y most w) : Fit0 w0 k l v b a x y most w.drew := h.step (Below.refl _ _).drew
theorem Fit0.alloc (h : Fit0 w0 k l v b a x y most w) (o : Obj) : Fit0 w0 k l v b a x y most (w.alloc o) := h.step ((Below.refl _ _).alloc (Nat.le_refl _) o)
theorem Fit0.set (h : Fit0 w0 k l v b a x y most w) {g : Nat} (hg : w0.heap.size + 1 + 1 < g) (u : Value) : Fit0 w0 k l v b a x y most (w.setCell ⟨g, 0, none⟩ u) :=
  ⟨h.p.apart (p := ⟨g, 0, none⟩) (show w0.heap.size ≠ g by omega) u, h.c.apart (p := ⟨g, 0, none⟩) (show w0.heap.size + 1 ≠ g by omega) u, h.m.other (show w0.heap.size + 1 + 1 ≠ g by omega) u, h.be.setCell (p := ⟨g, 0, none⟩) (show w0.heap.size ≤ g by omega) u⟩
theorem below_undrew {u u' : World} (hb : Below u.drew.heap.size u.drew u') : Below u.heap.size u u' := ⟨hb.os, hb.tape, hb.output, hb.size, hb.block⟩
theorem Fit0.eight (h : Fit0 w0 k l v b a x y most w) : w.cell? ⟨w0.heap.size, 0, none⟩ = some (.int .i64 k) ∧ w.cell? ⟨w0.heap.size, 1, none⟩ = some (.int .i64 l) ∧ w.cell? ⟨w0.heap.size, 2, none⟩ = some (.int .i64 v) ∧ w.cell? ⟨w0.heap.size, 3, none⟩ = some (.int .i64 b) ∧ w.cell? ⟨w0.heap.size + 1, 0, none⟩ = some (.int .i64 a) ∧ w.cell? ⟨w0.heap.size + 1, 1, none⟩ = some (.int .i64 0) ∧ w.cell? ⟨w0.heap.size + 1, 2, none⟩ = some x ∧ w.cell? ⟨w0.heap.size + 1, 3, none⟩ = some y :=
  ⟨h.p.cell 0, h.p.cell 1, h.p.cell 2, h.p.cell 3, h.c.cell 0, h.c.cell 1, h.c.cell 2, h.c.cell 3⟩
theorem box2 (u : World) {u' : World} (hb : Below ((u.alloc (.cells #[.int .i64 0] 3)).alloc (.cells #[.int .i64 0] 3)).heap.size ((u.alloc (.cells #[.int .i64 0] 3)).alloc (.cells #[.int .i64 0] 3)) u') : Boxed u' (u.heap.size + 1) 3 (.int .i64 0) := by
  have := Boxed.new (u.alloc (.cells #[.int .i64 0] 3)) 3 (.int .i64 0)
  rw [World.size_alloc] at this
  exact box_step this hb
theorem FitB.step (h : FitB w0 k l v b a x y most first left g7 g8 w) (hb : Below w.heap.size w w') : FitB w0 k l v b a x y most first left g7 g8 w' :=
  ⟨h.p.step hb, h.c.step hb, box_step h.m hb, box_step h.f hb, box_step h.l hb, h.ne, h.n7, h.n8, h.be.trans (hb.mono h.be.size)⟩
theorem Fit0.lt (h : Fit0 w0 k l v b a x y most w) : w0.heap.size + 1 + 1 < w.heap.size := Has.lt (l := [.int .i64 most]) h.m
end
section
variable {w0 w : World} {k l v b a : Int} {x y : Value} {most first left : Int} {g7 g8 : Nat}
theorem Fit0.toB (h : Fit0 w0 k l v b a x y most w) (h7 : Boxed w g7 3 (.int .i64 first)) (h8 : Boxed w g8 3 (.int .i64 left)) (hne : g7 ≠ g8) (h1 : w0.heap.size + 1 + 1 < g7) (h2 : w0.heap.size + 1 + 1 < g8) : FitB w0 k l v b a x y most first left g7 g8 w := ⟨h.p, h.c, h.m, h7, h8, hne, h1, h2, h.be⟩
theorem box_new1 (w : World) (t : TypeId) (u : Value) (o : Obj) : Boxed ((w.alloc o).alloc (.cells #[u] t)) (w.heap.size + 1) t u := by
  have := Boxed.new (w.alloc o) t u
  rw [World.size_alloc] at this
  exact this
theorem box_newS (w : World) (t : TypeId) (u : Value) (p : Addr) (z : Value) : Boxed ((w.setCell p z).alloc (.cells #[u] t)) w.heap.size t u := by
  have := Boxed.new (w.setCell p z) t u
  simpa using this
theorem Fit0.new2 (h : Fit0 w0 k l v b a x y most w) (first left : Int) : FitB w0 k l v b a x y most first left w.heap.size (w.heap.size + 1) ((w.alloc (.cells #[.int .i64 first] 3)).alloc (.cells #[.int .i64 left] 3)) :=
  ((h.alloc _).alloc _).toB ((Boxed.new w 3 _).alloc _) (box_new1 w _ _ _) (by omega) h.lt (Nat.lt_succ_of_lt h.lt)
theorem Fit0.new2' (h : Fit0 w0 k l v b a x y most w) (first left : Int) : FitB w0 k l v b a x y most first left (w.heap.size + 1) w.heap.size ((w.alloc (.cells #[.int .i64 left] 3)).alloc (.cells #[.int .i64 first] 3)) :=
  ((h.alloc _).alloc _).toB (box_new1 w _ _ _) ((Boxed.new w 3 _).alloc _) (by omega) (Nat.lt_succ_of_lt h.lt) h.lt
theorem Fit0.setNew (h : Fit0 w0 k l v b a x y most w) {g : Nat} {u : Value} (hx : Boxed w g 3 u) (first left : Int) (hg : w0.heap.size + 1 + 1 < g) : FitB w0 k l v b a x y most first left g w.heap.size ((w.setCell ⟨g, 0, none⟩ (.int .i64 first)).alloc (.cells #[.int .i64 left] 3)) :=
  ((h.set hg _).alloc _).toB ((hx.set _).alloc _) (box_newS w _ _ _ _) (by have := hx.lt; omega) hg h.lt
theorem Fit0.setNew' (h : Fit0 w0 k l v b a x y most w) {g : Nat} {u : Value} (hx : Boxed w g 3 u) (first left : Int) (hg : w0.heap.size + 1 + 1 < g) : FitB w0 k l v b a x y most first left w.heap.size g ((w.setCell ⟨g, 0, none⟩ (.int .i64 left)).alloc (.cells #[.int .i64 first] 3)) :=
  ((h.set hg _).alloc _).toB (box_newS w _ _ _ _) ((hx.set _).alloc _) (by have := hx.lt; omega) h.lt hg
theorem Fit0.setSet (h : Fit0 w0 k l v b a x y most w) {g g' : Nat} {u u' : Value} (hx : Boxed w g 3 u) (hx' : Boxed w g' 3 u') (first left : Int) (hg : w0.heap.size + 1 + 1 < g) (hg' : w0.heap.size + 1 + 1 < g') (hne : g ≠ g') : FitB w0 k l v b a x y most first left g g' ((w.setCell ⟨g, 0, none⟩ (.int .i64 first)).setCell ⟨g', 0, none⟩ (.int .i64 left)) :=
  ((h.set hg _).set hg' _).toB ((hx.set _).other hne _) ((hx'.other (Ne.symm hne) _).set _) hne hg hg'
end
/-- Between two rounds. -/
def FitI {sn : Nat} (w : World) (most tot b N : Int) (f : Nat → Int) (a q sl : Int) (g7 g8 : Nat) (pre : List (Ix sn)) (W : World) : Prop :=
  (((Boxed W g7 3 (.int .i64 (firstL a q sl pre)) ∧ Boxed W g8 3 (.int .i64 (leftL tot b N f pre))) ∧ Boxed W (w.heap.size + 1 + 1) 3 (.int .i64 most)) ∧ Below w.heap.size w W) ∧ ∀ i, i < pre.length → most < leftL tot b N f (pre.take i)
/-- Where the loop is left. -/
def FitX {sn : Nat} (w : World) (most tot b N : Int) (f : Nat → Int) (a q sl : Int) (g7 g8 : Nat) (c : Code) (ys : List (Ix sn)) (W : World) : Prop :=
  c = .exit 0 ∧ ∃ (pre : List (Ix sn)) (x : Ix sn), ys = pre ++ [x] ∧ Boxed W g7 3 (.int .i64 (firstL a q sl pre)) ∧ Below w.heap.size w W ∧ leftL tot b N f pre ≤ most ∧ ∀ i, i < pre.length → most < leftL tot b N f (pre.take i)
theorem fitI_own {sn : Nat} {w : World} {B : Nat} {most tot b N : Int} {f : Nat → Int} {a q sl : Int} {g7 g8 : Nat} (hB : w.heap.size ≤ B) : OwnFrom B (FitI (sn := sn) w most tot b N f a q sl g7 g8) :=
  OwnFrom.and (OwnFrom.and (OwnFrom.and (OwnFrom.and (Own.from (boxed_own _ _ (fun pre => Value.int .i64 (firstL a q sl pre))) _) (Own.from (boxed_own _ _ (fun pre => Value.int .i64 (leftL tot b N f pre))) _)) (Own.from (boxed_own _ _ (fun _ => Value.int .i64 most)) _)) (ownFrom_below (Nat.le_refl _) hB)) (ownFrom_pure _ (fun (pre : List (Ix sn)) => ∀ i, i < pre.length → most < leftL tot b N f (pre.take i)))
theorem fitX_own {sn : Nat} {w : World} {B : Nat} {most tot b N : Int} {f : Nat → Int} {a q sl : Int} {g7 g8 : Nat} (c : Code) (hB : w.heap.size ≤ B) : OwnFrom B (FitX (sn := sn) w most tot b N f a q sl g7 g8 c) := by
  rintro ys W W' row ⟨h1, pre, x, h2, h3, h4, h5⟩ hg hr
  exact ⟨h1, pre, x, h2, (Own.from (boxed_own g7 3 (fun (_ : Unit) => Value.int .i64 (firstL a q sl pre))) B) () W W' row h3 hg hr, (ownFrom_below (β := Unit) (Nat.le_refl _) hB) () W W' row h4 hg hr, h5⟩
set_option maxRecDepth 100000 in
set_option maxHeartbeats 4000000 in
theorem fits_any (k l v b sl a most : Int) (sa ha : Option Addr) (sn sc hc : Nat) (f : Nat → Int) (w : World) (h : RP k l v b sl) (a1 : 0 ≤ a) (a2 : a ≤ 1099511627776) (hm : MaySums l b (a / sl) sn f) (hf : SumsAt w sa sn f) (m0 : 0 ≤ most) (m1 : most ≤ 1048576) :
    Calls Try.prog 24 #[.agg #[.int .i64 k, .int .i64 l, .int .i64 v, .int .i64 b], .agg #[.int .i64 a, .int .i64 0, .slice sa sn sc, .slice ha 0 hc], .int .i64 most] w fun e w' => e = .returned (.int .i64 (a + waitV (fun m => cntV b (a / sl) m sn f) sl (a / sl) b a most)) ∧ Below w.heap.size w w' := by
  obtain ⟨l1, l2, v1, v2, b1, b2, s1, s2, _⟩ := h.bd
  obtain ⟨d0, d1⟩ := div_bd a1 s1
  have hsn : sn ≤ 16 := by rcases hm.len with e | e <;> omega
  have TT := Lib.hid (fun u (hu : Below w.heap.size w u) => by
    have := total_any k l v b sl a 0 a sa ha sn sc 0 hc f u h a1 a2 rfl hm.len (hf.below hu) (hm.bd l2)
    rw [counts_eq s1 b1 d0 (Int.le_refl _) hm] at this
    exact this)
  have tb := cnt_le (X := a / sl) b1 hm (by omega) (Int.le_refl _)
  have tb0 := cnt_nn (N := a / sl) (X := a / sl) b1 hm.len (fun i hi => (hm.each i hi).1)
  have HR := Lib.hid h
  have HM := Lib.hid hm
  have HF := Lib.hid hf
  have HV := Lib.hid (fun (h0 : 0 < sn) => valV_bd (N := a / sl) (f := f) (hm.len.resolve_left (by omega)) h0 (hm.bd l2))
  have FA := Lib.hid (fun j hj h1 h2 => fits_at (a := a) (sl := sl) (j := j) b1 hm d0 m0 hj h1 h2)
  have HP := Lib.hid (Fit0.made w k l v b a (.slice sa sn sc) (.slice ha 0 hc) most)
  have TOT := Lib.hid (rfl : cntV b (a / sl) (a / sl) sn f = cntV b (a / sl) (a / sl) sn f)
  clear h hm hf
  generalize hw : waitV (fun m => cntV b (a / sl) m sn f) sl (a / sl) b a most = WV at *
  clear hw
  generalize cntV b (a / sl) (a / sl) sn f = tot at *
  refine (callsIn_wide (n := 6)).1 ?_
  refine callsIn_of_wp_marks Try.func24 rfl trivial ?_ rfl
  simp only [Try.ntmps24, List.size_toArray, List.length_cons, List.length_nil, Nat.reduceAdd, Nat.reduceSub, Array.replicate_succ, Array.replicate_zero, List.push_toArray, List.append_toArray, List.nil_append, List.cons_append]
  gi_upto_region 1 with (fail)
  obtain ⟨W0, hW0⟩ : ∃ W0, (((w.alloc (.cells #[.int .i64 k, .int .i64 l, .int .i64 v, .int .i64 b] 23)).alloc (.cells #[.int .i64 a, .int .i64 0, .slice sa sn sc, .slice ha 0 hc] 27)).alloc (.cells #[.int .i64 most] 3)) = W0 := ⟨_, rfl⟩
  rw [hW0] at HP ⊢
  clear hW0
  gi_cut [7, 8] from 9 (fun s7 s8 wx => ∃ g7 g8 : Nat, s7 = .pointer (some ⟨g7, 0, none⟩) ∧ s8 = .pointer (some ⟨g8, 0, none⟩) ∧ FitB w k l v b a (.slice sa sn sc) (.slice ha 0 hc) most a tot g7 g8 wx)
  case first =>
    rename_i J K' hJ hK'
    refine wpIn_mono (Q := Exit.then K' (fun _ _ _ => False)) ?_ (fun e a' w' hq => by cases e <;> first | exact hq | exact hq.elim)
    refine wpIn_wide.2 ?_
    have z8 := HP.out.lt
    have z9 : w.heap.size < W0.heap.size := by omega
    have z10 : w.heap.size + 1 < W0.heap.size := by omega
    go_region_held3 (fun w' => w'.cell? ⟨w.heap.size, 0, none⟩ = some (.int .i64 k) ∧ w'.cell? ⟨w.heap.size, 1, none⟩ = some (.int .i64 l) ∧ w'.cell? ⟨w.heap.size, 2, none⟩ = some (.int .i64 v) ∧ w'.cell? ⟨w.heap.size, 3, none⟩ = some (.int .i64 b) ∧ w'.cell? ⟨w.heap.size + 1, 0, none⟩ = some (.int .i64 a) ∧ w'.cell? ⟨w.heap.size + 1, 1, none⟩ = some (.int .i64 0) ∧ w'.cell? ⟨w.heap.size + 1, 2, none⟩ = some (.slice sa sn sc) ∧ w'.cell? ⟨w.heap.size + 1, 3, none⟩ = some (.slice ha 0 hc)) (first | ((with_reducible refine Fit0.eight (x := .slice sa sn sc) (y := .slice ha 0 hc) (most := most) ?_); (repeat (first | (with_reducible exact HP.out) | (with_reducible exact H1.out) | (with_reducible refine Fit0.drew ?_) | (with_reducible refine Fit0.alloc ?_ _) | (with_reducible refine Fit0.set ?_ (by omega) _))); done)) (first | (go_at_call 26; (with_reducible refine (TT.out _ HP.out.drew.be).mono ?_); rintro e w2 ⟨rfl, hb⟩; have H1 := Lib.hid (HP.out.drew.step hb); clear hb) | (go_at_call 26; (with_reducible refine (TT.out _ (HP.out.alloc _).drew.be).mono ?_); rintro e w2 ⟨rfl, hb⟩; have H1 := Lib.hid ((HP.out.alloc _).drew.step hb); have X1 := Lib.hid (box_step (Boxed.new W0 3 (.int .i64 0)) (below_undrew hb)); have y1 : w2.cell? ⟨W0.heap.size, 0, none⟩ = some (.int .i64 0) := X1.out.cell; have y2 : w2.frozen? ⟨W0.heap.size, 0, none⟩ = false := X1.out.frozen; have y3 : W0.heap.size < w2.heap.size := X1.out.lt; clear hb) | (go_at_call 26; (with_reducible refine (TT.out _ ((HP.out.alloc _).alloc _).drew.be).mono ?_); rintro e w2 ⟨rfl, hb⟩; have H1 := Lib.hid (((HP.out.alloc _).alloc _).drew.step hb); have X1 := Lib.hid (box_step ((Boxed.new W0 3 (.int .i64 0)).alloc (.cells #[.int .i64 0] 3)) (below_undrew hb)); have X2 := Lib.hid (box2 W0 (below_undrew hb)); have y1 : w2.cell? ⟨W0.heap.size, 0, none⟩ = some (.int .i64 0) := X1.out.cell; have y2 : w2.frozen? ⟨W0.heap.size, 0, none⟩ = false := X1.out.frozen; have y3 : W0.heap.size < w2.heap.size := X1.out.lt; have y4 : w2.cell? ⟨W0.heap.size + 1, 0, none⟩ = some (.int .i64 0) := X2.out.cell; have y5 : w2.frozen? ⟨W0.heap.size + 1, 0, none⟩ = false := X2.out.frozen; have y6 : W0.heap.size + 1 < w2.heap.size := X2.out.lt; clear hb))
    all_goals
      refine hK' _ _ (Met.intro (hJ _ _ ?_))
      (repeat apply Exists.intro)
      refine ⟨?_, rfl⟩
    all_goals refine ⟨_, _, rfl, rfl, ?_⟩
    · with_reducible exact H1.out.new2 _ _
    · with_reducible exact H1.out.new2' _ _
    · with_reducible exact H1.out.setNew X1.out _ _ (by omega)
    · with_reducible exact H1.out.setSet X1.out X2.out _ _ (by omega) (by omega) (by omega)
    · with_reducible exact H1.out.setNew' X1.out _ _ (by omega)
    · with_reducible exact H1.out.setSet X2.out X1.out _ _ (by omega) (by omega) (by omega)
  case rest =>
  obtain ⟨g7, g8, rfl, rfl, hz⟩ := hcut
  clear TT HP
  have HZ := Lib.hid hz
  obtain ⟨z0, z1, z2, z3⟩ := hz.p.four
  obtain ⟨z4, z5, z6, z7⟩ := hz.c.four
  clear hz
  gi_wp2
  refine ⟨trivial, ?_⟩
  refine (going_in _ k l v b a 0 sa ha sn sc 0 hc _).mono ?_
  rintro e w1 ⟨rfl, rfl⟩
  gi_wp2
  have hsz : ((wc.alloc (.cells #[.int .i64 k, .int .i64 l, .int .i64 v, .int .i64 b] 23)).alloc (.cells #[.int .i64 a, .int .i64 0, .slice sa sn sc, .slice ha 0 hc] 27)).heap.size = wc.heap.size + 1 + 1 := by simp
  have hbb : Below wc.heap.size wc ((wc.alloc (.cells #[.int .i64 k, .int .i64 l, .int .i64 v, .int .i64 b] 23)).alloc (.cells #[.int .i64 a, .int .i64 0, .slice sa sn sc, .slice ha 0 hc] 27)) := ((Below.refl _ _).alloc (Nat.le_refl _) _).alloc (by simp) _
  have hG0 : GoB ((wc.alloc (.cells #[.int .i64 k, .int .i64 l, .int .i64 v, .int .i64 b] 23)).alloc (.cells #[.int .i64 a, .int .i64 0, .slice sa sn sc, .slice ha 0 hc] 27)) wc.heap.size (wc.heap.size + 1) k l v b a sa sn sc (.slice ha 0 hc) f :=
    ⟨made1 wc 23 [.int .i64 k, .int .i64 l, .int .i64 v, .int .i64 b] _, made2 wc 27 23 [.int .i64 a, .int .i64 0, .slice sa sn sc, .slice ha 0 hc] _, (HF.out.below HZ.out.be).below hbb⟩
  have HZ2 := HZ.out.step hbb
  obtain ⟨W0, hW0⟩ : ∃ W0, ((wc.alloc (.cells #[.int .i64 k, .int .i64 l, .int .i64 v, .int .i64 b] 23)).alloc (.cells #[.int .i64 a, .int .i64 0, .slice sa sn sc, .slice ha 0 hc] 27)) = W0 := ⟨_, rfl⟩
  rw [hW0] at hsz hG0 HZ2 ⊢
  clear hW0 hbb
  have hseq := going_stops (6 - 1) (by omega) wc.heap.size (wc.heap.size + 1) k l v b sl a sa sn sc (.slice ha 0 hc) f W0 HR.out a1 a2 HM.out.len hG0
  have c8 := HZ.out.l.lt
  have c7 := HZ.out.f.lt
  have n7 := HZ.out.n7
  have n8 := HZ.out.n8
  have hne := HZ.out.ne
  have cw := HZ.out.be.size
  have hNS : ∀ g, w.heap.size + 1 + 1 < g → g < wc.heap.size → 0 < sn → ¬ SB wc.heap.size (wc.heap.size + 1) sa g := by
    intro g h1 h2 h0
    obtain ⟨c, o, e, hl, _⟩ := HF.out h0
    rintro (q | q | ⟨o', q⟩)
    · omega
    · omega
    · rw [e] at q; cases q; omega
  have hI : OwnFrom W0.heap.size (FitI (sn := sn) w most tot b (a / sl) f a (a / sl * sl) sl g7 g8) := fitI_own (by omega)
  have hI0 : FitI (sn := sn) w most tot b (a / sl) f a (a / sl * sl) sl g7 g8 [] W0 := ⟨⟨⟨⟨by simpa [firstL] using HZ2.f, by simpa [leftL] using HZ2.l⟩, HZ2.m⟩, HZ2.be⟩, fun i hi => by simp at hi⟩
  clear HZ HZ2 z0 z1 z2 z3 z4 z5 z6 z7 hG0
  refine wpIn_rangeFunc_ownG (F := Fence.wide) (n := 6) (w := W0) rfl (by omega) (gf := 39) (lb := #[.pointer (some ⟨wc.heap.size, 0, none⟩), .pointer (some ⟨wc.heap.size + 1, 0, none⟩)]) rfl trivial (enters_of Try.func39 (by kernel_rfl) rfl)
    hseq (fun h k => h.trans k) (fun W l o o' _ hl ho _ => KeepS.putObj o' hl ho) (Below.refl _ _) (fun _ => rfl)
    (FitI w most tot b (a / sl) f a (a / sl * sl) sl g7 g8) (FitX w most tot b (a / sl) f a (a / sl * sl) sl g7 g8) hI (fun c => fitX_own c (by omega)) hI0
    (fun x => { tmps := #[.agg #[.int .i64 k, .int .i64 l, .int .i64 v, .int .i64 b], .agg #[.int .i64 a, .int .i64 0, .slice sa sn sc, .slice ha 0 hc], .int .i64 most, .pointer (some ⟨w.heap.size, 0, none⟩), .pointer (some ⟨w.heap.size + 1, 0, none⟩), .pointer (some ⟨w.heap.size + 1 + 1, 0, none⟩), .int .i64 0, .pointer (some ⟨g7, 0, none⟩), .pointer (some ⟨g8, 0, none⟩), .int .i64 (goesI (a / sl * sl) sl (x.1 + 1)), .int .i64 (valV b (a / sl) f x.1), u11, u12, u13, u14, u15, u16, u17, .agg #[.int .i64 k, .int .i64 l, .int .i64 v, .int .i64 b], .agg #[.int .i64 a, .int .i64 0, .slice sa sn sc, .slice ha 0 hc], .func (.func 39) #[] #[.pointer (some ⟨wc.heap.size, 0, none⟩), .pointer (some ⟨wc.heap.size + 1, 0, none⟩)], .int .i64 (goesI (a / sl * sl) sl (x.1 + 1)), .int .i64 (valV b (a / sl) f x.1), u23, u24, u25, u26, u27, u28, u29, u30], defers := [] }) ?assign ?body ?done ?stop
  case assign =>
    intro l x W K hK
    gi_wp2
    exact hK
  case body =>
    rintro l pre x W ⟨⟨⟨⟨hf7, hl8⟩, hm5⟩, hB⟩, hpre⟩ hlp
    have hx := x.2
    have hv := HV.out (by omega)
    obtain ⟨v1', v2'⟩ := hv x.1
    have ⟨t1, t2⟩ := leftL_bd (tot := tot) hv pre
    have cF := hf7.cell
    have fF := hf7.frozen
    have cL := hl8.cell
    have fL := hl8.frozen
    have cM := hm5.cell
    have F7 := Lib.hid hf7
    have F8 := Lib.hid hl8
    have FM := Lib.hid hm5
    have HB := Lib.hid hB
    have HPRE := Lib.hid hpre
    have E1 := Lib.hid (leftL_snoc tot b (a / sl) f pre x)
    have E2 := Lib.hid (firstL_snoc a (a / sl * sl) sl pre x)
    have N7 := Lib.hid (hNS g7 (by omega) (by omega) (by omega))
    have N8 := Lib.hid (hNS g8 (by omega) (by omega) (by omega))
    have LL := Lib.hid (rfl : leftL tot b (a / sl) f pre = leftL tot b (a / sl) f pre)
    clear hf7 hl8 hm5 hB hpre hv hNS hseq hI hI0
    by_cases hle : leftL tot b (a / sl) f pre ≤ most
    · have R := Lib.hid (show FitX w most tot b (a / sl) f a (a / sl * sl) sl g7 g8 (.exit 0) (pre ++ [x]) W from ⟨rfl, pre, x, rfl, F7.out, HB.out, hle, HPRE.out⟩)
      generalize leftL tot b (a / sl) f pre = c at *
      generalize firstL a (a / sl * sl) sl pre = d at *
      generalize valV b (a / sl) f x.1 = V at *
      generalize goesI (a / sl * sl) sl (x.1 + 1) = G at *
      gi_wp2
      exact ⟨(KeepsOthers.refl _).from _, R.out⟩
    · have R := Lib.hid (show ∀ i, i < (pre ++ [x]).length → most < leftL tot b (a / sl) f ((pre ++ [x]).take i) by
        intro i hi
        rw [List.length_append, List.length_singleton] at hi
        by_cases e : i = pre.length
        · subst e; rw [List.take_left]; omega
        · rw [List.take_append_of_le_length (by omega)]; exact HPRE.out i (by omega))
      generalize leftL tot b (a / sl) f pre = c at *
      generalize firstL a (a / sl * sl) sl pre = d at *
      generalize valV b (a / sl) f x.1 = V at *
      generalize goesI (a / sl * sl) sl (x.1 + 1) = G at *
      have hlen : (pre.length : Int) ≤ 16 := by omega
      have hne' : g8 ≠ g7 := Ne.symm hne
      have ew : IntKind.i64.wrap (c - V) = c - V := wrap_i (by omega) (by omega)
      have P := Lib.hid (show KeepsFrom W0.heap.size W (((W.setCell ⟨g7, 0, none⟩ (.int .i64 G)).setCell ⟨g8, 0, none⟩ (.int .i64 (IntKind.i64.wrap (c - V)))).drew) ∧ KeepS (SB wc.heap.size (wc.heap.size + 1) sa) W (((W.setCell ⟨g7, 0, none⟩ (.int .i64 G)).setCell ⟨g8, 0, none⟩ (.int .i64 (IntKind.i64.wrap (c - V)))).drew) ∧ FitI w most tot b (a / sl) f a (a / sl * sl) sl g7 g8 (pre ++ [x]) (((W.setCell ⟨g7, 0, none⟩ (.int .i64 G)).setCell ⟨g8, 0, none⟩ (.int .i64 (IntKind.i64.wrap (c - V)))).drew) by
        rw [ew]
        have q1 : KeepsFrom W0.heap.size W ((W.setCell ⟨g7, 0, none⟩ (.int .i64 G)).setCell ⟨g8, 0, none⟩ (.int .i64 (c - V))) := ((KeepsOthers.setCell _ _ _).from _).trans ((KeepsOthers.setCell _ _ _).from _)
        have q2 : KeepS (SB wc.heap.size (wc.heap.size + 1) sa) W ((W.setCell ⟨g7, 0, none⟩ (.int .i64 G)).setCell ⟨g8, 0, none⟩ (.int .i64 (c - V))) := (keepS_set N7.out _).trans (keepS_set N8.out _)
        have q3 : Boxed ((W.setCell ⟨g7, 0, none⟩ (.int .i64 G)).setCell ⟨g8, 0, none⟩ (.int .i64 (c - V))) g7 3 (.int .i64 G) := (F7.out.set _).other hne _
        have q4 : Boxed ((W.setCell ⟨g7, 0, none⟩ (.int .i64 G)).setCell ⟨g8, 0, none⟩ (.int .i64 (c - V))) g8 3 (.int .i64 (c - V)) := (F8.out.other hne' _).set _
        have q5 : Boxed ((W.setCell ⟨g7, 0, none⟩ (.int .i64 G)).setCell ⟨g8, 0, none⟩ (.int .i64 (c - V))) (w.heap.size + 1 + 1) 3 (.int .i64 most) := (FM.out.other (by omega) _).other (by omega) _
        refine ⟨⟨q1.size, q1.same⟩, q2, ⟨⟨⟨⟨?_, ?_⟩, q5⟩, ((HB.out.setCell (p := ⟨g7, 0, none⟩) (show w.heap.size ≤ g7 by omega) _).setCell (p := ⟨g8, 0, none⟩) (show w.heap.size ≤ g8 by omega) _).drew⟩, R.out⟩⟩
        · rw [E2.out]; exact q3
        · rw [E1.out]; exact q4)
      rw [hsz, ew] at P
      gi_wp2
      gi_region
      all_goals (gi_wp2; exact P.out)
  case done =>
    rintro D ys W hD rfl ⟨⟨⟨⟨hf7, hl8⟩, hm5⟩, hB⟩, hpre⟩ hK
    have cN := hf7.cell
    have e := FA.out sn (Nat.le_refl _) (fun i hi => by
      have := hpre i (by rw [upL_length sn (Nat.le_refl _)]; exact hi)
      rw [upL_take sn (Nat.le_refl _) i (by omega)] at this
      exact this) (.inl rfl)
    rw [e] at cN
    have E := Lib.hid e
    gi_wp2
    refine ⟨by simp, .inl ⟨_, _, rfl, run_takeDeferred hK, ?_⟩⟩
    exact ⟨_, results_tmp rfl _ _ _, rfl, hB.trans (belowK_b (w := w) (Nat.le_refl _) W D _ _ (by omega) hK rfl rfl)⟩
  case stop =>
    rintro D c pre W hD ⟨j, hj, rfl⟩ ⟨rfl, pre', x, hpx, hf7, hB, hle, hpre⟩ hK
    obtain ⟨i, rfl, hi⟩ : ∃ i, pre' = upL sn i ∧ i ≤ sn := by
      match j, hj, hpx with
      | 0, _, h => simp [upL] at h
      | j + 1, h1, h =>
        rw [upL_succ (show j < sn by omega)] at h
        exact ⟨j, (List.append_inj_left' h rfl).symm, by omega⟩
    have cN := hf7.cell
    have e := FA.out i hi (fun q hq => by
      have := hpre q (by rw [upL_length i hi]; exact hq)
      rw [upL_take i hi q (by omega)] at this
      exact this) (.inr hle)
    rw [e] at cN
    gi_wp2
    refine ⟨by simp, .inl ⟨_, _, rfl, run_takeDeferred hK, ?_⟩⟩
    exact ⟨_, results_tmp rfl _ _ _, rfl, hB.trans (belowK_b (w := w) (Nat.le_refl _) W D _ _ (by omega) hK rfl rfl)⟩
end Go.Proofs.Ytbmjpfcnagodaaa
