/- The contract of the document's own Ask of an exact log, done: its walks. WRITTEN BY gen_ex11.py. -/
import Derived.Test.YtgdcgilhaedbmaaEx10
import Derived.Deep.RegionLaw
import Derived.Maps.AppendAt
-- prune
namespace Go.Proofs.Ytgdcgilhaedbmaa
open Go.ChangeShapes Go.WideShapes Go.ChangeAt Go.RowKit
set_option linter.unusedVariables false

theorem OwnH.congr {B : Nat} {w : World} {v : Value} {n : Nat} {f g f' g' : Nat → Int} (h : OwnH B w v n f g) (e : ∀ i, i < n → f i = f' i ∧ g i = g' i) : OwnH B w v n f' g' := by
  unfold OwnH at *
  rw [← hv_congr e]; exact h
theorem OwnH.nil (B : Nat) (w : World) (f g : Nat → Int) : OwnH B w (.slice none 0 0) 0 f g := ⟨rfl, .inl ⟨rfl, rfl⟩⟩
/-- One hit behind a row of a call's own, at a step of a region that draws. -/
theorem step_appendH {B : Nat} (w : World) (H : Nat) (y z : Int) (hb : Has w H 50 [.int .i64 y, .int .i64 z]) {ops : Array Oper} {o : Oper} {a : Act} {K : Act → World → Prop} {Q : Exit → Act → World → Prop} {E : Prop} (hgd : o.guard = none) (s x : Operand)
    (ho : o.op = .call { callee := .builtin .append, args := #[s, x], argTypes := #[25, 25] }) (v : Value) (n : Nat) (f g : Nat → Int) (hs : a.eval s = v) (hx : a.eval x = .slice (some ⟨H, 0, none⟩) 1 1) (hO : OwnH B w v n f g) (hB : B ≤ w.heap.size) (hlen : n ≤ 64)
    (h : ∀ g' cap w', OwnH B w' (.slice (some ⟨g', 0, none⟩) (n + 1) cap) (n + 1) (putF f n y) (putF g n z) → Kept (fun c => v.ownBlock = some c) w w' → K (a.put o.dst (.slice (some ⟨g', 0, none⟩) (n + 1) cap)) w') :
    if Region.wanted o (yielded ops a.tmps) = true then Oper.wp Try.prog o a w K Q else E := by
  obtain ⟨i0, hi, hz0, hz1, hz2⟩ := info_parts infoH
  refine step_append_lies _ hgd s x 25 ho B 50 i0 (.agg #[.int .i64 0, .int .i64 0]) 2 16 Try.underlying25 hi hz0 hz1 hz2 rfl (by decide) v n (hv f g n) hs hO ⟨H, 0, none⟩ 1 1 [.int .i64 y, .int .i64 z] hx rfl (World.news_of_block hb) (by first | exact ⟨rfl, rfl⟩ | (intro u hu; simp at hu; rcases hu with rfl | rfl <;> rfl)) (by decide) (by unfold maxLen; omega) (by omega) hB w.heap.size rfl ?_
  intro g' cap w' hown hgrow hat hlt
  exact h g' cap w' (by unfold OwnH; rw [← hv_snoc]; exact hown) ((Kept.refl (fun c => v.ownBlock = some c) w).grown hgrow (fun g hg => .inl hg))
/-- The policy, the cell, the new cell with its row of hits, and the two results. -/
structure LoopX (w0 : World) (k l v b a T : Int) (x y : Value) (L : Nat) (f g : Nat → Int) (vv : Value) (gD : Nat) (w : World) : Prop where
  p : Has w w0.heap.size 23 [.int .i64 k, .int .i64 l, .int .i64 v, .int .i64 b]
  c : Has w (w0.heap.size + 1) 27 [.int .i64 a, .int .i64 0, x, y]
  rc : Has w (w0.heap.size + 1 + 1) 27 [.int .i64 0, .int .i64 0, .slice none 0 0, .slice none 0 0]
  rv : Has w (w0.heap.size + 1 + 1 + 1) 32 [.bool false, .int .i64 0, .int .i64 0, .int .i64 0]
  d : Has w gD 27 [.int .i64 T, .int .i64 0, .slice none 0 0, vv]
  s : OwnH w0.heap.size w vv L f g
  b1 : w0.heap.size + 1 + 1 + 1 < gD
  be : Below w0.heap.size w0 w
section
variable {w0 w w' : World} {k l v b a T : Int} {x y : Value} {L : Nat} {f g : Nat → Int} {vv : Value} {gD : Nat}
theorem LoopX.step (h : LoopX w0 k l v b a T x y L f g vv gD w) (hb : Below w.heap.size w w') : LoopX w0 k l v b a T x y L f g vv gD w' :=
  ⟨h.p.step hb, h.c.step hb, h.rc.step hb, h.rv.step hb, h.d.step hb, h.s.below hb, h.b1, h.be.trans (hb.mono h.be.size)⟩
theorem LoopX.drewN (h : LoopX w0 k l v b a T x y L f g vv gD w) (m : Nat) : LoopX w0 k l v b a T x y L f g vv gD (w.drewN m) := h.step (below_drewN (Below.refl _ _) m)
theorem LoopX.congr (h : LoopX w0 k l v b a T x y L f g vv gD w) {f' g' : Nat → Int} (e : ∀ i, i < L → f i = f' i ∧ g i = g' i) : LoopX w0 k l v b a T x y L f' g' vv gD w :=
  ⟨h.p, h.c, h.rc, h.rv, h.d, h.s.congr e, h.b1, h.be⟩
theorem LoopX.dkept (h : LoopX w0 k l v b a T x y L f g vv gD w) (hk : Kept (fun c => vv.ownBlock = some c) w w') : Has w' gD 27 [.int .i64 T, .int .i64 0, .slice none 0 0, vv] := h.d.kept hk (fun e => h.s.ne h.d (by decide) gD e rfl)
theorem LoopX.added (h : LoopX w0 k l v b a T x y L f g vv gD w) {L' : Nat} {f' g' : Nat → Int} {v' : Value} (hk : Kept (fun c => vv.ownBlock = some c) w w') (ho : OwnH w0.heap.size w' v' L' f' g') : LoopX w0 k l v b a T x y L' f' g' v' gD (w'.setCell ⟨gD, 3, none⟩ v') := by
  have q1 := h.b1
  have p := h.p.kept hk (fun e => h.s.ne h.p (by decide) _ e rfl)
  have c := h.c.kept hk (fun e => h.s.ne h.c (by decide) _ e rfl)
  have rc := h.rc.kept hk (fun e => h.s.ne h.rc (by decide) _ e rfl)
  have rv := h.rv.kept hk (fun e => h.s.ne h.rv (by decide) _ e rfl)
  have d := h.dkept hk
  have be : Below w0.heap.size w0 w' := h.be.trans (hk.below h.be.size (fun c hc e => by have := (h.s.lt e).2; omega))
  exact ⟨p.apart (p := ⟨gD, 3, none⟩) (show w0.heap.size ≠ gD by omega) _, c.apart (p := ⟨gD, 3, none⟩) (show w0.heap.size + 1 ≠ gD by omega) _, rc.apart (p := ⟨gD, 3, none⟩) (show w0.heap.size + 1 + 1 ≠ gD by omega) _, rv.apart (p := ⟨gD, 3, none⟩) (show w0.heap.size + 1 + 1 + 1 ≠ gD by omega) _, d.store 3 v', ownH_set ho (ho.ne d (by decide)) 3 v', q1, be.setCell (p := ⟨gD, 3, none⟩) (show w0.heap.size ≤ gD by omega) v'⟩
theorem LoopX.twelve (h : LoopX w0 k l v b a T x y L f g vv gD w) : (w.cell? ⟨w0.heap.size, 0, none⟩ = some (.int .i64 k) ∧ w.cell? ⟨w0.heap.size, 1, none⟩ = some (.int .i64 l) ∧ w.cell? ⟨w0.heap.size, 2, none⟩ = some (.int .i64 v) ∧ w.cell? ⟨w0.heap.size, 3, none⟩ = some (.int .i64 b)) ∧ (w.cell? ⟨w0.heap.size + 1, 0, none⟩ = some (.int .i64 a) ∧ w.cell? ⟨w0.heap.size + 1, 1, none⟩ = some (.int .i64 0) ∧ w.cell? ⟨w0.heap.size + 1, 2, none⟩ = some (x) ∧ w.cell? ⟨w0.heap.size + 1, 3, none⟩ = some (y)) ∧ (w.cell? ⟨gD, 0, none⟩ = some (.int .i64 T) ∧ w.cell? ⟨gD, 1, none⟩ = some (.int .i64 0) ∧ w.cell? ⟨gD, 2, none⟩ = some (.slice none 0 0) ∧ w.cell? ⟨gD, 3, none⟩ = some (vv)) := ⟨h.p.four, h.c.four, h.d.four⟩
/-- .. with the verdict's own block. -/
theorem LoopX.toX (h : LoopX w0 k l v b a T x y L f g vv gD w) (V : List Value) : AskX w0 k l v b T L f g vv gD w.heap.size V (w.alloc (.cells V.toArray 32)) := by
  have l1 := h.d.lt
  have l3 := h.rv.lt
  have bt : Below w.heap.size w (w.alloc (.cells V.toArray 32)) := (Below.refl _ _).alloc (Nat.le_refl _) _
  exact ⟨h.p.step bt, h.rc.step bt, h.rv.step bt, h.d.step bt, h.s.below bt, Has.made w 32 V, by omega, h.b1, l3, h.be.trans (bt.mono h.be.size)⟩
end
/-- The last hit's weight anew. -/
theorem AskX.putH {w0 w : World} {k l v b T : Int} {L cap gb : Nat} {f g : Nat → Int} {gD gV : Nat} {V : List Value} (h : AskX w0 k l v b T L f g (.slice (some ⟨gb, 0, none⟩) L cap) gD gV V w) (n1 : 1 ≤ L) (y : Int) : AskX w0 k l v b T L f (putF g (L - 1) y) (.slice (some ⟨gb, 0, none⟩) L cap) gD gV V (w.setCell ⟨gb, (L - 1) * 2 + 1, none⟩ (.int .i64 y)) := by
  have q := (h.s.lt (c := gb) rfl).2
  have e : ∀ {t : TypeId} {x : Nat} {l : List Value}, Has w x t l → t ≠ 50 → x ≠ gb := fun hx ht => Ne.symm (h.s.ne hx ht gb rfl)
  exact ⟨h.p.apart (p := ⟨gb, (L - 1) * 2 + 1, none⟩) (e h.p (by decide)) _, h.rc.apart (p := ⟨gb, (L - 1) * 2 + 1, none⟩) (e h.rc (by decide)) _, h.rv.apart (p := ⟨gb, (L - 1) * 2 + 1, none⟩) (e h.rv (by decide)) _, h.d.apart (p := ⟨gb, (L - 1) * 2 + 1, none⟩) (e h.d (by decide)) _, h.s.put n1 y, h.v.apart (p := ⟨gb, (L - 1) * 2 + 1, none⟩) (e h.v (by decide)) _, h.n2, h.b1, h.b3, h.be.setCell (p := ⟨gb, (L - 1) * 2 + 1, none⟩) (show w0.heap.size ≤ gb from q) _⟩
/-- Behind the new cell's block. -/
theorem AskAt.toLX {w0 w : World} {k l v b a T : Int} {x y : Value} {f g : Nat → Int} (h : AskAt w0 k l v b a 0 x y w) (hc : Has w (w0.heap.size + 1) 27 [.int .i64 a, .int .i64 0, x, y]) :
    LoopX w0 k l v b a T x y 0 f g (.slice none 0 0) w.heap.size (w.alloc (.cells #[.int .i64 T, .int .i64 0, .slice none 0 0, .slice none 0 0] 27)) := by
  have l3 := h.rv.lt
  have bt : Below w.heap.size w (w.alloc (.cells #[.int .i64 T, .int .i64 0, .slice none 0 0, .slice none 0 0] 27)) := (Below.refl _ _).alloc (Nat.le_refl _) _
  exact ⟨h.p.step bt, hc.step bt, h.rc.step bt, h.rv.step bt, Has.made w 27 [.int .i64 T, .int .i64 0, .slice none 0 0, .slice none 0 0], OwnH.nil _ _ _ _, l3, h.pc.be.trans (bt.mono h.pc.be.size)⟩

set_option maxRecDepth 100000 in
set_option maxHeartbeats 4000000 in
theorem rAskW_nw (k l v b a t m T : Int) (sa ha : Option Addr) (sc n hc J L : Nat) (f g F0 G0 : Nat → Int) (w : World) (h : EP k l v b) (a1 : 0 ≤ a) (a2 : a ≤ 1099511627776) (hh : HitsAt w ha n f g) (hn : n ≤ 60) (hm : MayHits l v a n f g) (t1 : 0 ≤ t) (t2 : t ≤ 1099511627776) (m1 : 1 ≤ m) (m2 : m ≤ 1048576) (hT : tmax t a = T) (hJ : ∀ i, i < n → (T - v < f i ↔ J ≤ i)) (hL : J + L = n) (hF0 : sh J f = F0) (hG0 : sh J g = G0) (bF : ∀ i, i < L → 0 ≤ F0 i ∧ F0 i ≤ 1099511627776) (bG : ∀ i, i < L → 0 ≤ G0 i ∧ G0 i ≤ 1048576) (N0 : Int) (hN : cntE v F0 G0 L T = N0) (n0 : 0 ≤ N0) (n1 : N0 ≤ l) (hml : m ≤ l) (hq : N0 + m ≤ l) (hne : L = 0 ∨ F0 (L - 1) ≠ T) (bFF : ∀ i, i < (L + 1) → 0 ≤ (putF F0 L T) i ∧ (putF F0 L T) i ≤ 1099511627776) (bGG : ∀ i, i < (L + 1) → 0 ≤ (putF G0 L m) i ∧ (putF G0 L m) i ≤ 1048576) (X2 : Int) (hX2 : waitE v (putF F0 L T) (putF G0 L m) (L + 1) T 0 = X2) :
    Calls Try.prog 11 #[.agg #[.int .i64 k, .int .i64 l, .int .i64 v, .int .i64 b], .agg #[.int .i64 a, .int .i64 0, .slice sa 0 sc, .slice ha n hc], .int .i64 t, .int .i64 m] w (ETold T (L + 1) (putF F0 L T) (putF G0 L m) true (l - (N0 + m)) (0) X2 w) := by
  obtain ⟨l1, l2, v1, v2⟩ := h.bd
  have tb : a ≤ T ∧ T ≤ 1099511627776 := by rw [← hT]; unfold tmax; split <;> omega
  have tmm : (t < a ∧ T = a) ∨ (a ≤ t ∧ T = t) := by rw [← hT]; unfold tmax; split <;> omega
  obtain ⟨tb1, tb2⟩ := tb
  have MK := Lib.hid (fun u (hu : Below w.heap.size w u) => rMay_yes k l v b a sa ha sc n hc f g u h a1 a2 (hh.below hu) (by omega) hm)
  have TK := Lib.hid (fun u => rTime_yes t u t1 t2)
  have WK := Lib.hid (fun u => rWeighs_yes m u m1 m2)
  have CN := Lib.hid (fun A c u (hu : OwnH w.heap.size u (.slice A L c) L F0 G0) => by
    have := counts_any k l v b T A L c F0 G0 u hu.hits.1 bG (by omega) (by omega) (by omega) v1 v2
    rw [hN] at this
    exact this)
  have W2 := Lib.hid (fun A c u (hu : OwnH w.heap.size u (.slice A (L + 1) c) (L + 1) (putF F0 L T) (putF G0 L m)) => by
    have := wait_any k l v b T 0 A (L + 1) c (putF F0 L T) (putF G0 L m) u hu.hits.1 bFF bGG (by omega) (by omega) tb2 v1 v2
    rw [hX2] at this
    exact this)
  have HF := Lib.hid (fun i (hi : i < L) => (show f (J + i) = F0 i ∧ g (J + i) = G0 i by rw [← hF0, ← hG0]; exact ⟨rfl, rfl⟩))
  have HH := Lib.hid hh
  have HJ := Lib.hid hJ
  have FB := Lib.hid (fun i hi => (show 0 ≤ f i ∧ f i ≤ 1099511627776 by have := hm.each i hi; omega))
  clear h hm hh hT hJ hF0 hG0 bF bG hN hX2 bFF bGG
  have e1 : IntKind.i64.wrap (l - (N0 + m)) = l - (N0 + m) := wrap_i (by omega) (by omega)
  have e2 : IntKind.i64.wrap (N0 + m) = N0 + m := wrap_i (by omega) (by omega)
  have e6 : IntKind.i64.wrap (T - v) = T - v := wrap_i (by omega) (by omega)
  have dq : decide (N0 + m ≤ l) = true := by simp; omega
  have HP := Lib.hid (AskAt.made w k l v b a 0 (.slice sa 0 sc) (.slice ha n hc))
  have HC := Lib.hid (((made2 w 27 23 [.int .i64 a, .int .i64 0, .slice sa 0 sc, .slice ha n hc] (.cells #[.int .i64 k, .int .i64 l, .int .i64 v, .int .i64 b] 23)).alloc (.cells #[.int .i64 0, .int .i64 0, .slice none 0 0, .slice none 0 0] 27)).alloc (.cells #[.bool false, .int .i64 0, .int .i64 0, .int .i64 0] 32))
  go_enter Try.func11, Try.ntmps11
  go_wp2_with fail
  refine (MK.out _ HP.out.pc.be).mono ?_; rintro e w1 ⟨rfl, hb⟩
  have HQ := Lib.hid (HP.out.step hb)
  have HD := Lib.hid (HC.out.step hb)
  clear hb HP MK HC
  obtain ⟨z0, z1, z2, z3, z4, z5, z6, z7⟩ := HQ.out.pc.eight
  go_wp2_with fail
  refine (TK.out _).mono ?_; rintro e w' ⟨rfl, rfl⟩
  go_wp2_with fail
  refine (WK.out _).mono ?_; rintro e w' ⟨rfl, rfl⟩
  go_upto_region 3 with (fail)
  go_cut [2] (fun s2 wx => s2 = .int .i64 T ∧ w1 = wx)
  case first =>
    rcases tmm with ⟨q1, q2⟩ | ⟨q1, q2⟩
    · go_upto_region 4 with (fail)
      all_goals (go_meet; exact ⟨by rw [q2], rfl⟩)
    · go_upto_region 4 with (fail)
      all_goals (go_meet; exact ⟨by rw [q2], rfl⟩)
  case rest =>
  obtain ⟨rfl, rfl⟩ := hcut
  clear tmm
  have hz := AskAt.toLX (T := T) (f := F0) (g := G0) HQ.out HD.out
  have HZ := Lib.hid hz
  clear HQ HD hz z0 z1 z2 z3 z4 z5 z6 z7
  go_wp2_with fail
  have hz := HZ.out
  clear HZ
  generalize w1.alloc (.cells #[.int .i64 T, .int .i64 0, .slice none 0 0, .slice none 0 0] 27) = wz at hz ⊢
  generalize w1.heap.size = gD at hz ⊢
  have H0 := Lib.hid hz
  clear hz
  go_loopw [11] (fun vi wr => ∃ i : Nat, i ≤ n ∧ vi = .int .i64 (i : Int) ∧ ∃ (A : Option Addr) (q cap : Nat), Hid (i - J = q) ∧ LoopX w k l v b a T (.slice sa 0 sc) (.slice ha n hc) q F0 G0 (.slice A q cap) gD wr) (fun vi _ => n - (intOf vi).toNat)
  case atStart => exact ⟨0, Nat.zero_le _, rfl, none, 0, 0, Lib.hid (by omega), H0.out⟩
  case round =>
    obtain ⟨i, hi, rfl, A, q, cap, HI, hr⟩ := hrel
    have R1 := Lib.hid hr
    clear hr H0
    by_cases hlt : i < n
    · obtain ⟨⟨j0, j1, j2, j3⟩, ⟨j4, j5, j6, j7⟩, j8, j9, j10, j11⟩ := R1.out.twelve
      obtain ⟨b1, o1, rfl, hl, hce⟩ := HH.out (by omega)
      have q1 := (R1.out.be.cell (p := ⟨b1, o1 + i * 2, none⟩) hl).trans (hce i hlt).1
      have q2 := (R1.out.be.cell (p := ⟨b1, o1 + i * 2 + 1, none⟩) hl).trans (hce i hlt).2
      obtain ⟨y1, y2⟩ := FB.out i hlt
      obtain ⟨y, hy0⟩ : ∃ y, f i = y := ⟨_, rfl⟩
      obtain ⟨x, hx0⟩ : ∃ x, g i = x := ⟨_, rfl⟩
      have hji := HJ.out i hlt
      have HY := Lib.hid hy0
      have HX := Lib.hid hx0
      rw [hy0] at q1 y1 y2 hji
      rw [hx0] at q2
      clear hy0 hx0
      have X1 := Lib.hid (hce i hlt)
      clear hce
      have B0 : (0 : Int) ≤ (i : Int) := by omega
      have B1 : (i : Int) < (n : Int) := by omega
      by_cases hy : T - v < y
      · have hd : decide (T - v < y) = true := by simp; omega
        have hJi := hji.1 hy
        have hq := HI.out
        have HA := Lib.hid (HF.out q (by omega))
        have HS := Lib.hid (show J + q = i by omega)
        have HN := Lib.hid (show i + 1 - J = q + 1 by omega)
        have hq64 : q ≤ 64 := by omega
        clear hq hji hJi
        go_wp2_with fail
        go_quiet (fail)
        have R2 := Lib.hid (R1.out.drewN nq)
        clear R1 j0 j1 j2 j3 j4 j5 j6 j7 j8 j9 j10 j11 q1 q2
        go_wp2_with fail
        generalize wr.drewN nq = wq at R2 ⊢
        obtain ⟨⟨j0, j1, j2, j3⟩, ⟨j4, j5, j6, j7⟩, j8, j9, j10, j11⟩ := R2.out.twelve
        have q1 := (R2.out.be.cell (p := ⟨b1, o1 + i * 2, none⟩) hl).trans X1.out.1
        have q2 := (R2.out.be.cell (p := ⟨b1, o1 + i * 2 + 1, none⟩) hl).trans X1.out.2
        rw [HY.out] at q1
        rw [HX.out] at q2
        have g1 : gD < wq.heap.size := R2.out.d.lt
        have g2 : b1 < wq.heap.size := Nat.lt_of_lt_of_le hl R2.out.be.size
        have g3 : w.heap.size < wq.heap.size := by have := R2.out.p.lt; exact this
        have g4 : w.heap.size + 1 < wq.heap.size := R2.out.c.lt
        have R3 := Lib.hid (R2.out.step (((Below.refl _ _).alloc (Nat.le_refl _) (.cells #[.int .i64 y, .int .i64 x] 50)).drew))
        have RW := Lib.hid (show Has ((wq.alloc (.cells #[.int .i64 y, .int .i64 x] 50)).drew) wq.heap.size 50 [.int .i64 y, .int .i64 x] from has_drew (Has.made wq 50 [.int .i64 y, .int .i64 x]))
        go_region_law (refine step_appendH (B := w.heap.size) ((wq.alloc (.cells #[.int .i64 y, .int .i64 x] 50)).drew) wq.heap.size y x RW.out rfl (.tmp 56) (.tmp 62) rfl (.slice A q cap) q F0 G0 (by simp [Act.eval]) (by simp [Act.eval]) R3.out.s R3.out.be.size hq64 ?_; intro g' cap' w3 ho hk; have R4 := Lib.hid (R3.out.added hk ho); have u5 := (R3.out.dkept hk).loose; have u6 := (R3.out.dkept hk).cell 3; simp at u6; clear ho hk)
        all_goals
          go_wp2_with fail
          go_roundw
          case rel =>
            refine ⟨i + 1, by omega, by go_num, some ⟨g', 0, none⟩, q + 1, cap', HN, R4.out.congr (fun j hj => ?_)⟩
            unfold putF
            by_cases e : j = q
            · rw [if_pos e, if_pos e, e, ← HA.out.1, ← HA.out.2, HS.out]; exact ⟨HY.out.symm, HX.out.symm⟩
            · rw [if_neg e, if_neg e]; exact ⟨rfl, rfl⟩
          case measure => simp [intOf]; omega
      · have hd : decide (T - v < y) = false := by simp; omega
        have hJi : ¬ J ≤ i := fun e => hy (hji.2 e)
        have HN := Lib.hid (show i + 1 - J = q by have := HI.out; omega)
        clear hji hJi
        go_wp2_with fail
        go_quiet (fail)
        go_wp2_with fail
        go_roundw
        case rel => exact ⟨i + 1, by omega, by go_num, A, q, cap, HN, R1.out.drewN nq⟩
        case measure => simp [intOf]; omega
    · obtain rfl : q = L := by have := HI.out; omega
      have d3 : ¬ i < n := hlt
      obtain ⟨⟨j0, j1, j2, j3⟩, ⟨j4, j5, j6, j7⟩, j8, j9, j10, j11⟩ := R1.out.twelve
      go_wp2_with fail
      refine (CN.out A cap _ R1.out.s).mono ?_; rintro e w2 ⟨rfl, hb⟩
      have R2 := Lib.hid (R1.out.step hb)
      clear hb j0 j1 j2 j3 j4 j5 j6 j7 j8 j9 j10 j11 R1 CN
      obtain ⟨⟨j0, j1, j2, j3⟩, ⟨j4, j5, j6, j7⟩, j8, j9, j10, j11⟩ := R2.out.twelve
      have HZ := Lib.hid (R2.out.toX [.bool true, .int .i64 0, .int .i64 0, .int .i64 0])
      go_upto_region 12 with (fail)
      clear j0 j1 j2 j3 j4 j5 j6 j7 j8 j9 j10 j11
      have hz := HZ.out
      clear HZ R2
      generalize w2.alloc (.cells #[.bool true, .int .i64 0, .int .i64 0, .int .i64 0] 32) = wy at hz ⊢
      generalize w2.heap.size = gV at hz ⊢
      have H3 := Lib.hid hz
      clear hz
      obtain ⟨i0, hi', hz0, hz1, hz2⟩ := info_parts infoH
      have HIN := Lib.hid (And.intro hi' (And.intro hz0 (And.intro hz1 hz2)))
      clear hi' hz0 hz1 hz2
      have HBE := Lib.hid (show Below wy.heap.size wy (wy.alloc (.cells #[.int .i64 T, .int .i64 m] 50)) from (Below.refl _ _).alloc (Nat.le_refl _) _)
      have HO := Lib.hid (H3.out.s.below HBE.out)
      have HS3 := Lib.hid (show w.heap.size ≤ (wy.alloc (.cells #[.int .i64 T, .int .i64 m] 50)).heap.size from Nat.le_trans H3.out.be.size HBE.out.size)
      have q64 : q ≤ 64 := by omega
      obtain ⟨⟨j0, j1, j2, j3⟩, j4, j5, j6, j7⟩ := H3.out.eight
      obtain ⟨u0, u1, u2, u3⟩ := H3.out.v.four
      have u4 := H3.out.v.loose
      go_upto_if 78 with (fail)
      go_cut [12, 14] (fun s12 s14 wx => s12 = .int .i64 (N0 + m) ∧ ∃ A2 cap2, AskX w k l v b T (q + 1) (putF F0 q T) (putF G0 q m) (.slice A2 (q + 1) cap2) gD gV [.bool true, .int .i64 0, .int .i64 0, .int .i64 0] wx)
      case first =>
        by_cases q0 : q = 0
        · subst q0
          go_wp2_with (first | (at_builtin; refine wpList_append_own _ rfl (.tmp 112) (.tmp 116) 25 rfl w.heap.size 50 i0 (.agg #[.int .i64 0, .int .i64 0]) 2 16 Try.underlying25 HIN.out.1 HIN.out.2.1 HIN.out.2.2.1 HIN.out.2.2.2 rfl (by decide) _ 0 (hv F0 G0 0) rfl HO.out _ 1 1 [.int .i64 T, .int .i64 m] rfl ?c1a ?c2a ?c3a ?c4a ?c5a ?c6a ?_))
          try (case c1a => rfl)
          try (case c2a => exact World.news_of_block (Has.made wy 50 [.int .i64 T, .int .i64 m]))
          try (case c3a => first | exact ⟨rfl, rfl⟩ | (intro u hu; simp at hu; rcases hu with rfl | rfl <;> rfl))
          try (case c4a => unfold maxLen; omega)
          try (case c5a => omega)
          try (case c6a => first | exact HS3.out | (have := H3.out.be.size; omega))
          intro v' wa hown hgrow hnil
          have HK := (Kept.refl (fun c => (Value.slice A 0 cap).ownBlock = some c) (wy.alloc (.cells #[.int .i64 T, .int .i64 m] 50))).grown hgrow (fun g hg => .inl hg)
          have hoo : OwnH w.heap.size wa v' (0 + 1) (putF F0 0 T) (putF G0 0 m) := by unfold OwnH; rw [← hv_snoc]; exact hown
          obtain ⟨A2, cap2, rfl, hp1, hp2, _⟩ := hoo.at_
          have H3b := H3.out.step HBE.out
          have u5 := (H3b.dkept HK).loose
          have u6 := (H3b.dkept HK).cell 3
          simp at u6
          have HZ := Lib.hid (H3b.added HK hoo)
          clear hown hgrow hnil hoo hp1 hp2 HK H3b j0 j1 j2 j3 j4 j5 j6 j7 u0 u1 u2 u3 u4
          go_wp2_with fail
          go_meet
          exact ⟨rfl, A2, cap2, HZ.out⟩
        · have hne' := hne.resolve_left q0
          obtain ⟨gb, cpx, ev, hgb, hcx1, hcx2, hfr, hcl⟩ := H3.out.s.form (by omega)
          injection ev with ev1 ev2 ev3
          subst ev1 ev3
          have hx := (hcl (q - 1) (by omega)).1
          obtain ⟨y, hy⟩ : ∃ y, F0 (q - 1) = y := ⟨_, rfl⟩
          rw [hy] at hne' hx
          have e7 : ((q : Int) - 1).toNat = q - 1 := by omega
          have d0 : decide ((1 : Int) ≤ (q : Int)) = true := by simp; omega
          have d1 : (y == T) = false := by simp; exact hne'
          clear hcl hfr hy hne hne'
          go_wp2_with (first | (at_builtin; refine wpList_append_own _ rfl (.tmp 112) (.tmp 116) 25 rfl w.heap.size 50 i0 (.agg #[.int .i64 0, .int .i64 0]) 2 16 Try.underlying25 HIN.out.1 HIN.out.2.1 HIN.out.2.2.1 HIN.out.2.2.2 rfl (by decide) _ q (hv F0 G0 q) rfl HO.out _ 1 1 [.int .i64 T, .int .i64 m] rfl ?c1b ?c2b ?c3b ?c4b ?c5b ?c6b ?_))
          try (case c1b => rfl)
          try (case c2b => exact World.news_of_block (Has.made wy 50 [.int .i64 T, .int .i64 m]))
          try (case c3b => first | exact ⟨rfl, rfl⟩ | (intro u hu; simp at hu; rcases hu with rfl | rfl <;> rfl))
          try (case c4b => unfold maxLen; omega)
          try (case c5b => omega)
          try (case c6b => first | exact HS3.out | (have := H3.out.be.size; omega))
          intro v' wa hown hgrow hnil
          have HK := (Kept.refl (fun c => (Value.slice (some ⟨gb, 0, none⟩) q cap).ownBlock = some c) (wy.alloc (.cells #[.int .i64 T, .int .i64 m] 50))).grown hgrow (fun g hg => .inl hg)
          have hoo : OwnH w.heap.size wa v' (q + 1) (putF F0 q T) (putF G0 q m) := by unfold OwnH; rw [← hv_snoc]; exact hown
          obtain ⟨A2, cap2, rfl, hp1, hp2, _⟩ := hoo.at_
          have H3b := H3.out.step HBE.out
          have u5 := (H3b.dkept HK).loose
          have u6 := (H3b.dkept HK).cell 3
          simp at u6
          have HZ := Lib.hid (H3b.added HK hoo)
          clear hown hgrow hnil hoo hp1 hp2 HK H3b j0 j1 j2 j3 j4 j5 j6 j7 u0 u1 u2 u3 u4
          go_wp2_with fail
          go_meet
          exact ⟨rfl, A2, cap2, HZ.out⟩
      case rest =>
      obtain ⟨rfl, A2, cap2, hcut⟩ := hcut
      have H4 := Lib.hid hcut
      clear hcut H3 j0 j1 j2 j3 j4 j5 j6 j7 u0 u1 u2 u3 u4 HBE HO HS3 HIN
      obtain ⟨⟨j0, j1, j2, j3⟩, j4, j5, j6, j7⟩ := H4.out.eight
      obtain ⟨u0, u1, u2, u3⟩ := H4.out.v.four
      have u4 := H4.out.v.loose
      go_upto_region 22 with (fail)
      clear j0 j1 j2 j3 j4 j5 j6 j7 u0 u1 u2 u3 u4
      have hz := H4.out.putV 1 (.int .i64 (l - (N0 + m)))
      replace hz : AskX w k l v b T (q + 1) (putF F0 q T) (putF G0 q m) (.slice A2 (q + 1) cap2) gD gV [.bool true, .int .i64 (l - (N0 + m)), .int .i64 0, .int .i64 0] (wc.setCell ⟨gV, 1, none⟩ (.int .i64 (l - (N0 + m)))) := hz
      generalize wc.setCell ⟨gV, 1, none⟩ (.int .i64 (l - (N0 + m))) = w5 at hz ⊢
      have H6 := Lib.hid hz
      clear hz H4
      obtain ⟨⟨j0, j1, j2, j3⟩, j4, j5, j6, j7⟩ := H6.out.eight
      obtain ⟨u0, u1, u2, u3⟩ := H6.out.v.four
      have u4 := H6.out.v.loose
      go_upto_region 23 with (fail)
      refine (W2.out A2 cap2 _ H6.out.s).mono ?_; rintro e w7 ⟨rfl, hb⟩
      have H7 := Lib.hid (H6.out.step hb)
      clear hb j0 j1 j2 j3 j4 j5 j6 j7 u0 u1 u2 u3 u4 H6 W2
      obtain ⟨⟨j0, j1, j2, j3⟩, j4, j5, j6, j7⟩ := H7.out.eight
      obtain ⟨u0, u1, u2, u3⟩ := H7.out.v.four
      have u4 := H7.out.v.loose
      go_upto_region 23 with (fail)
      clear j0 j1 j2 j3 j4 j5 j6 j7 u0 u1 u2 u3 u4
      have hz := H7.out.putV 3 (.int .i64 X2)
      replace hz : AskX w k l v b T (q + 1) (putF F0 q T) (putF G0 q m) (.slice A2 (q + 1) cap2) gD gV [.bool true, .int .i64 (l - (N0 + m)), .int .i64 0, .int .i64 X2] (w7.setCell ⟨gV, 3, none⟩ (.int .i64 X2)) := hz
      generalize w7.setCell ⟨gV, 3, none⟩ (.int .i64 X2) = w8 at hz ⊢
      have H8 := Lib.hid hz
      clear hz H7
      obtain ⟨⟨j0, j1, j2, j3⟩, j4, j5, j6, j7⟩ := H8.out.eight
      obtain ⟨u0, u1, u2, u3⟩ := H8.out.v.four
      obtain ⟨r0, r1, r2, r3, r4, r5, r6, r7, r8, r9⟩ := H8.out.res
      have g0 : gD ≠ w.heap.size + 1 + 1 := by have := H8.out.b1; omega
      have g1 : gD ≠ w.heap.size + 1 + 1 + 1 := by have := H8.out.b1; omega
      have g2 : gV ≠ w.heap.size + 1 + 1 := by have := H8.out.b3; omega
      have g3 : gV ≠ w.heap.size + 1 + 1 + 1 := by have := H8.out.b3; omega
      have g4 := Lib.hid (H8.out.s.ne H8.out.rc (by decide))
      have g5 := Lib.hid (H8.out.s.ne H8.out.rv (by decide))
      go_region
      all_goals go_wp2_with fail
      all_goals refine bodyPost_ret (v := .tuple #[.agg #[.int .i64 T, .int .i64 0, .slice none 0 0, .slice A2 (q + 1) cap2], .agg #[.bool true, .int .i64 (l - (N0 + m)), .int .i64 0, .int .i64 X2]]) (by simp [results, Try.results11, go_sem, r0, r1, r2, r3, r4, r5, r6, r7]) rfl ⟨_, rfl, ?_, ?_⟩
      all_goals repeat (first | with_reducible exact H8.out.be | with_reducible exact H8.out.s | with_reducible (refine Below.setCell ?_ (le3 _) _) | with_reducible (refine Below.setCell ?_ (le2 _) _) | with_reducible refine Below.drew ?_ | with_reducible refine ownH_drew ?_ | with_reducible (refine ownH_set ?_ g4.out _ _) | with_reducible (refine ownH_set ?_ g5.out _ _))

set_option maxRecDepth 100000 in
set_option maxHeartbeats 4000000 in
theorem rAskW_sm (k l v b a t m T : Int) (sa ha : Option Addr) (sc n hc J L : Nat) (f g F0 G0 : Nat → Int) (w : World) (h : EP k l v b) (a1 : 0 ≤ a) (a2 : a ≤ 1099511627776) (hh : HitsAt w ha n f g) (hn : n ≤ 60) (hm : MayHits l v a n f g) (t1 : 0 ≤ t) (t2 : t ≤ 1099511627776) (m1 : 1 ≤ m) (m2 : m ≤ 1048576) (hT : tmax t a = T) (hJ : ∀ i, i < n → (T - v < f i ↔ J ≤ i)) (hL : J + L = n) (hF0 : sh J f = F0) (hG0 : sh J g = G0) (bF : ∀ i, i < L → 0 ≤ F0 i ∧ F0 i ≤ 1099511627776) (bG : ∀ i, i < L → 0 ≤ G0 i ∧ G0 i ≤ 1048576) (N0 : Int) (hN : cntE v F0 G0 L T = N0) (n0 : 0 ≤ N0) (n1 : N0 ≤ l) (hml : m ≤ l) (hq : N0 + m ≤ l) (hL1 : 1 ≤ L) (hsm : F0 (L - 1) = T) (bFF : ∀ i, i < L → 0 ≤ F0 i ∧ F0 i ≤ 1099511627776) (bGG : ∀ i, i < L → 0 ≤ (putF G0 (L - 1) (G0 (L - 1) + m)) i ∧ (putF G0 (L - 1) (G0 (L - 1) + m)) i ≤ 1048576) (X2 : Int) (hX2 : waitE v F0 (putF G0 (L - 1) (G0 (L - 1) + m)) L T 0 = X2) :
    Calls Try.prog 11 #[.agg #[.int .i64 k, .int .i64 l, .int .i64 v, .int .i64 b], .agg #[.int .i64 a, .int .i64 0, .slice sa 0 sc, .slice ha n hc], .int .i64 t, .int .i64 m] w (ETold T L F0 (putF G0 (L - 1) (G0 (L - 1) + m)) true (l - (N0 + m)) (0) X2 w) := by
  obtain ⟨l1, l2, v1, v2⟩ := h.bd
  have tb : a ≤ T ∧ T ≤ 1099511627776 := by rw [← hT]; unfold tmax; split <;> omega
  have tmm : (t < a ∧ T = a) ∨ (a ≤ t ∧ T = t) := by rw [← hT]; unfold tmax; split <;> omega
  obtain ⟨tb1, tb2⟩ := tb
  have MK := Lib.hid (fun u (hu : Below w.heap.size w u) => rMay_yes k l v b a sa ha sc n hc f g u h a1 a2 (hh.below hu) (by omega) hm)
  have TK := Lib.hid (fun u => rTime_yes t u t1 t2)
  have WK := Lib.hid (fun u => rWeighs_yes m u m1 m2)
  have CN := Lib.hid (fun A c u (hu : OwnH w.heap.size u (.slice A L c) L F0 G0) => by
    have := counts_any k l v b T A L c F0 G0 u hu.hits.1 bG (by omega) (by omega) (by omega) v1 v2
    rw [hN] at this
    exact this)
  have W2 := Lib.hid (fun A c u (hu : OwnH w.heap.size u (.slice A L c) L F0 (putF G0 (L - 1) (G0 (L - 1) + m))) => by
    have := wait_any k l v b T 0 A L c F0 (putF G0 (L - 1) (G0 (L - 1) + m)) u hu.hits.1 bFF bGG (by omega) (by omega) tb2 v1 v2
    rw [hX2] at this
    exact this)
  have bgl := bG (L - 1) (by omega)
  have HF := Lib.hid (fun i (hi : i < L) => (show f (J + i) = F0 i ∧ g (J + i) = G0 i by rw [← hF0, ← hG0]; exact ⟨rfl, rfl⟩))
  have HH := Lib.hid hh
  have HJ := Lib.hid hJ
  have FB := Lib.hid (fun i hi => (show 0 ≤ f i ∧ f i ≤ 1099511627776 by have := hm.each i hi; omega))
  clear h hm hh hT hJ hF0 hG0 bF bG hN hX2 bFF bGG
  have e1 : IntKind.i64.wrap (l - (N0 + m)) = l - (N0 + m) := wrap_i (by omega) (by omega)
  have e2 : IntKind.i64.wrap (N0 + m) = N0 + m := wrap_i (by omega) (by omega)
  have e6 : IntKind.i64.wrap (T - v) = T - v := wrap_i (by omega) (by omega)
  have dq : decide (N0 + m ≤ l) = true := by simp; omega
  have HP := Lib.hid (AskAt.made w k l v b a 0 (.slice sa 0 sc) (.slice ha n hc))
  have HC := Lib.hid (((made2 w 27 23 [.int .i64 a, .int .i64 0, .slice sa 0 sc, .slice ha n hc] (.cells #[.int .i64 k, .int .i64 l, .int .i64 v, .int .i64 b] 23)).alloc (.cells #[.int .i64 0, .int .i64 0, .slice none 0 0, .slice none 0 0] 27)).alloc (.cells #[.bool false, .int .i64 0, .int .i64 0, .int .i64 0] 32))
  go_enter Try.func11, Try.ntmps11
  go_wp2_with fail
  refine (MK.out _ HP.out.pc.be).mono ?_; rintro e w1 ⟨rfl, hb⟩
  have HQ := Lib.hid (HP.out.step hb)
  have HD := Lib.hid (HC.out.step hb)
  clear hb HP MK HC
  obtain ⟨z0, z1, z2, z3, z4, z5, z6, z7⟩ := HQ.out.pc.eight
  go_wp2_with fail
  refine (TK.out _).mono ?_; rintro e w' ⟨rfl, rfl⟩
  go_wp2_with fail
  refine (WK.out _).mono ?_; rintro e w' ⟨rfl, rfl⟩
  go_upto_region 3 with (fail)
  go_cut [2] (fun s2 wx => s2 = .int .i64 T ∧ w1 = wx)
  case first =>
    rcases tmm with ⟨q1, q2⟩ | ⟨q1, q2⟩
    · go_upto_region 4 with (fail)
      all_goals (go_meet; exact ⟨by rw [q2], rfl⟩)
    · go_upto_region 4 with (fail)
      all_goals (go_meet; exact ⟨by rw [q2], rfl⟩)
  case rest =>
  obtain ⟨rfl, rfl⟩ := hcut
  clear tmm
  have hz := AskAt.toLX (T := T) (f := F0) (g := G0) HQ.out HD.out
  have HZ := Lib.hid hz
  clear HQ HD hz z0 z1 z2 z3 z4 z5 z6 z7
  go_wp2_with fail
  have hz := HZ.out
  clear HZ
  generalize w1.alloc (.cells #[.int .i64 T, .int .i64 0, .slice none 0 0, .slice none 0 0] 27) = wz at hz ⊢
  generalize w1.heap.size = gD at hz ⊢
  have H0 := Lib.hid hz
  clear hz
  go_loopw [11] (fun vi wr => ∃ i : Nat, i ≤ n ∧ vi = .int .i64 (i : Int) ∧ ∃ (A : Option Addr) (q cap : Nat), Hid (i - J = q) ∧ LoopX w k l v b a T (.slice sa 0 sc) (.slice ha n hc) q F0 G0 (.slice A q cap) gD wr) (fun vi _ => n - (intOf vi).toNat)
  case atStart => exact ⟨0, Nat.zero_le _, rfl, none, 0, 0, Lib.hid (by omega), H0.out⟩
  case round =>
    obtain ⟨i, hi, rfl, A, q, cap, HI, hr⟩ := hrel
    have R1 := Lib.hid hr
    clear hr H0
    by_cases hlt : i < n
    · obtain ⟨⟨j0, j1, j2, j3⟩, ⟨j4, j5, j6, j7⟩, j8, j9, j10, j11⟩ := R1.out.twelve
      obtain ⟨b1, o1, rfl, hl, hce⟩ := HH.out (by omega)
      have q1 := (R1.out.be.cell (p := ⟨b1, o1 + i * 2, none⟩) hl).trans (hce i hlt).1
      have q2 := (R1.out.be.cell (p := ⟨b1, o1 + i * 2 + 1, none⟩) hl).trans (hce i hlt).2
      obtain ⟨y1, y2⟩ := FB.out i hlt
      obtain ⟨y, hy0⟩ : ∃ y, f i = y := ⟨_, rfl⟩
      obtain ⟨x, hx0⟩ : ∃ x, g i = x := ⟨_, rfl⟩
      have hji := HJ.out i hlt
      have HY := Lib.hid hy0
      have HX := Lib.hid hx0
      rw [hy0] at q1 y1 y2 hji
      rw [hx0] at q2
      clear hy0 hx0
      have X1 := Lib.hid (hce i hlt)
      clear hce
      have B0 : (0 : Int) ≤ (i : Int) := by omega
      have B1 : (i : Int) < (n : Int) := by omega
      by_cases hy : T - v < y
      · have hd : decide (T - v < y) = true := by simp; omega
        have hJi := hji.1 hy
        have hq := HI.out
        have HA := Lib.hid (HF.out q (by omega))
        have HS := Lib.hid (show J + q = i by omega)
        have HN := Lib.hid (show i + 1 - J = q + 1 by omega)
        have hq64 : q ≤ 64 := by omega
        clear hq hji hJi
        go_wp2_with fail
        go_quiet (fail)
        have R2 := Lib.hid (R1.out.drewN nq)
        clear R1 j0 j1 j2 j3 j4 j5 j6 j7 j8 j9 j10 j11 q1 q2
        go_wp2_with fail
        generalize wr.drewN nq = wq at R2 ⊢
        obtain ⟨⟨j0, j1, j2, j3⟩, ⟨j4, j5, j6, j7⟩, j8, j9, j10, j11⟩ := R2.out.twelve
        have q1 := (R2.out.be.cell (p := ⟨b1, o1 + i * 2, none⟩) hl).trans X1.out.1
        have q2 := (R2.out.be.cell (p := ⟨b1, o1 + i * 2 + 1, none⟩) hl).trans X1.out.2
        rw [HY.out] at q1
        rw [HX.out] at q2
        have g1 : gD < wq.heap.size := R2.out.d.lt
        have g2 : b1 < wq.heap.size := Nat.lt_of_lt_of_le hl R2.out.be.size
        have g3 : w.heap.size < wq.heap.size := by have := R2.out.p.lt; exact this
        have g4 : w.heap.size + 1 < wq.heap.size := R2.out.c.lt
        have R3 := Lib.hid (R2.out.step (((Below.refl _ _).alloc (Nat.le_refl _) (.cells #[.int .i64 y, .int .i64 x] 50)).drew))
        have RW := Lib.hid (show Has ((wq.alloc (.cells #[.int .i64 y, .int .i64 x] 50)).drew) wq.heap.size 50 [.int .i64 y, .int .i64 x] from has_drew (Has.made wq 50 [.int .i64 y, .int .i64 x]))
        go_region_law (refine step_appendH (B := w.heap.size) ((wq.alloc (.cells #[.int .i64 y, .int .i64 x] 50)).drew) wq.heap.size y x RW.out rfl (.tmp 56) (.tmp 62) rfl (.slice A q cap) q F0 G0 (by simp [Act.eval]) (by simp [Act.eval]) R3.out.s R3.out.be.size hq64 ?_; intro g' cap' w3 ho hk; have R4 := Lib.hid (R3.out.added hk ho); have u5 := (R3.out.dkept hk).loose; have u6 := (R3.out.dkept hk).cell 3; simp at u6; clear ho hk)
        all_goals
          go_wp2_with fail
          go_roundw
          case rel =>
            refine ⟨i + 1, by omega, by go_num, some ⟨g', 0, none⟩, q + 1, cap', HN, R4.out.congr (fun j hj => ?_)⟩
            unfold putF
            by_cases e : j = q
            · rw [if_pos e, if_pos e, e, ← HA.out.1, ← HA.out.2, HS.out]; exact ⟨HY.out.symm, HX.out.symm⟩
            · rw [if_neg e, if_neg e]; exact ⟨rfl, rfl⟩
          case measure => simp [intOf]; omega
      · have hd : decide (T - v < y) = false := by simp; omega
        have hJi : ¬ J ≤ i := fun e => hy (hji.2 e)
        have HN := Lib.hid (show i + 1 - J = q by have := HI.out; omega)
        clear hji hJi
        go_wp2_with fail
        go_quiet (fail)
        go_wp2_with fail
        go_roundw
        case rel => exact ⟨i + 1, by omega, by go_num, A, q, cap, HN, R1.out.drewN nq⟩
        case measure => simp [intOf]; omega
    · obtain rfl : q = L := by have := HI.out; omega
      have d3 : ¬ i < n := hlt
      obtain ⟨⟨j0, j1, j2, j3⟩, ⟨j4, j5, j6, j7⟩, j8, j9, j10, j11⟩ := R1.out.twelve
      go_wp2_with fail
      refine (CN.out A cap _ R1.out.s).mono ?_; rintro e w2 ⟨rfl, hb⟩
      have R2 := Lib.hid (R1.out.step hb)
      clear hb j0 j1 j2 j3 j4 j5 j6 j7 j8 j9 j10 j11 R1 CN
      obtain ⟨⟨j0, j1, j2, j3⟩, ⟨j4, j5, j6, j7⟩, j8, j9, j10, j11⟩ := R2.out.twelve
      have HZ := Lib.hid (R2.out.toX [.bool true, .int .i64 0, .int .i64 0, .int .i64 0])
      go_upto_region 12 with (fail)
      clear j0 j1 j2 j3 j4 j5 j6 j7 j8 j9 j10 j11
      have hz := HZ.out
      clear HZ R2
      generalize w2.alloc (.cells #[.bool true, .int .i64 0, .int .i64 0, .int .i64 0] 32) = wy at hz ⊢
      generalize w2.heap.size = gV at hz ⊢
      have H3 := Lib.hid hz
      clear hz
      obtain ⟨gb, cpx, ev, hgb, hcx1, hcx2, hfr, hcl⟩ := H3.out.s.form hL1
      injection ev with ev1 ev2 ev3
      subst ev1 ev3
      have hx := (hcl (q - 1) (by omega)).1
      have hzz := (hcl (q - 1) (by omega)).2
      have hz0 := hfr ((q - 1) * 2 + 1)
      rw [hsm] at hx
      obtain ⟨x, hgx⟩ : ∃ x, G0 (q - 1) = x := ⟨_, rfl⟩
      rw [hgx] at hzz bgl
      rw [hgx] at W2 ⊢
      obtain ⟨bg1, bg2⟩ := bgl
      have e7 : ((q : Int) - 1).toNat = q - 1 := by omega
      have d0 : decide ((1 : Int) ≤ (q : Int)) = true := by simp; omega
      have d1 : (T == T) = true := by simp
      have e8 : IntKind.i64.wrap (x + m) = x + m := wrap_i (by omega) (by omega)
      have HZ := Lib.hid (fun k => (H3.out.step (below_drewN (Below.refl _ _) k)).putH hL1 (x + m))
      have HGX := Lib.hid hgx
      clear hcl hfr hgx hsm
      obtain ⟨⟨j0, j1, j2, j3⟩, j4, j5, j6, j7⟩ := H3.out.eight
      obtain ⟨u0, u1, u2, u3⟩ := H3.out.v.four
      have u4 := H3.out.v.loose
      go_upto_if 78 with (fail)
      go_cut [12, 14] (fun s12 s14 wx => s12 = .int .i64 (N0 + m) ∧ AskX w k l v b T q F0 (putF G0 (q - 1) (x + m)) (.slice (some ⟨gb, 0, none⟩) q cap) gD gV [.bool true, .int .i64 0, .int .i64 0, .int .i64 0] wx)
      case first =>
        go_wp2_with fail
        go_region
        all_goals (go_wp2_with fail; go_meet; exact ⟨rfl, HZ.out 1⟩)
      case rest =>
      obtain ⟨rfl, hcut⟩ := hcut
      have H4 := Lib.hid hcut
      clear hcut H3 j0 j1 j2 j3 j4 j5 j6 j7 u0 u1 u2 u3 u4 HZ hx hzz hz0
      obtain ⟨⟨j0, j1, j2, j3⟩, j4, j5, j6, j7⟩ := H4.out.eight
      obtain ⟨u0, u1, u2, u3⟩ := H4.out.v.four
      have u4 := H4.out.v.loose
      go_upto_region 22 with (fail)
      clear j0 j1 j2 j3 j4 j5 j6 j7 u0 u1 u2 u3 u4
      have hz := H4.out.putV 1 (.int .i64 (l - (N0 + m)))
      replace hz : AskX w k l v b T q F0 (putF G0 (q - 1) (x + m)) (.slice (some ⟨gb, 0, none⟩) q cap) gD gV [.bool true, .int .i64 (l - (N0 + m)), .int .i64 0, .int .i64 0] (wc.setCell ⟨gV, 1, none⟩ (.int .i64 (l - (N0 + m)))) := hz
      generalize wc.setCell ⟨gV, 1, none⟩ (.int .i64 (l - (N0 + m))) = w5 at hz ⊢
      have H6 := Lib.hid hz
      clear hz H4
      obtain ⟨⟨j0, j1, j2, j3⟩, j4, j5, j6, j7⟩ := H6.out.eight
      obtain ⟨u0, u1, u2, u3⟩ := H6.out.v.four
      have u4 := H6.out.v.loose
      go_upto_region 23 with (fail)
      refine (W2.out (some ⟨gb, 0, none⟩) cap _ H6.out.s).mono ?_; rintro e w7 ⟨rfl, hb⟩
      have H7 := Lib.hid (H6.out.step hb)
      clear hb j0 j1 j2 j3 j4 j5 j6 j7 u0 u1 u2 u3 u4 H6 W2
      obtain ⟨⟨j0, j1, j2, j3⟩, j4, j5, j6, j7⟩ := H7.out.eight
      obtain ⟨u0, u1, u2, u3⟩ := H7.out.v.four
      have u4 := H7.out.v.loose
      go_upto_region 23 with (fail)
      clear j0 j1 j2 j3 j4 j5 j6 j7 u0 u1 u2 u3 u4
      have hz := H7.out.putV 3 (.int .i64 X2)
      replace hz : AskX w k l v b T q F0 (putF G0 (q - 1) (x + m)) (.slice (some ⟨gb, 0, none⟩) q cap) gD gV [.bool true, .int .i64 (l - (N0 + m)), .int .i64 0, .int .i64 X2] (w7.setCell ⟨gV, 3, none⟩ (.int .i64 X2)) := hz
      generalize w7.setCell ⟨gV, 3, none⟩ (.int .i64 X2) = w8 at hz ⊢
      have H8 := Lib.hid hz
      clear hz H7
      obtain ⟨⟨j0, j1, j2, j3⟩, j4, j5, j6, j7⟩ := H8.out.eight
      obtain ⟨u0, u1, u2, u3⟩ := H8.out.v.four
      obtain ⟨r0, r1, r2, r3, r4, r5, r6, r7, r8, r9⟩ := H8.out.res
      have g0 : gD ≠ w.heap.size + 1 + 1 := by have := H8.out.b1; omega
      have g1 : gD ≠ w.heap.size + 1 + 1 + 1 := by have := H8.out.b1; omega
      have g2 : gV ≠ w.heap.size + 1 + 1 := by have := H8.out.b3; omega
      have g3 : gV ≠ w.heap.size + 1 + 1 + 1 := by have := H8.out.b3; omega
      have g4 := Lib.hid (H8.out.s.ne H8.out.rc (by decide))
      have g5 := Lib.hid (H8.out.s.ne H8.out.rv (by decide))
      go_region
      all_goals go_wp2_with fail
      all_goals refine bodyPost_ret (v := .tuple #[.agg #[.int .i64 T, .int .i64 0, .slice none 0 0, .slice (some ⟨gb, 0, none⟩) q cap], .agg #[.bool true, .int .i64 (l - (N0 + m)), .int .i64 0, .int .i64 X2]]) (by simp [results, Try.results11, go_sem, r0, r1, r2, r3, r4, r5, r6, r7]) rfl ⟨_, rfl, ?_, ?_⟩
      all_goals (try rw [HGX.out])
      all_goals repeat (first | with_reducible exact H8.out.be | with_reducible exact H8.out.s | with_reducible (refine Below.setCell ?_ (le3 _) _) | with_reducible (refine Below.setCell ?_ (le2 _) _) | with_reducible refine Below.drew ?_ | with_reducible refine ownH_drew ?_ | with_reducible (refine ownH_set ?_ g4.out _ _) | with_reducible (refine ownH_set ?_ g5.out _ _))

set_option maxRecDepth 100000 in
set_option maxHeartbeats 4000000 in
theorem rAskW_re (k l v b a t m T : Int) (sa ha : Option Addr) (sc n hc J L : Nat) (f g F0 G0 : Nat → Int) (w : World) (h : EP k l v b) (a1 : 0 ≤ a) (a2 : a ≤ 1099511627776) (hh : HitsAt w ha n f g) (hn : n ≤ 60) (hm : MayHits l v a n f g) (t1 : 0 ≤ t) (t2 : t ≤ 1099511627776) (m1 : 1 ≤ m) (m2 : m ≤ 1048576) (hT : tmax t a = T) (hJ : ∀ i, i < n → (T - v < f i ↔ J ≤ i)) (hL : J + L = n) (hF0 : sh J f = F0) (hG0 : sh J g = G0) (bF : ∀ i, i < L → 0 ≤ F0 i ∧ F0 i ≤ 1099511627776) (bG : ∀ i, i < L → 0 ≤ G0 i ∧ G0 i ≤ 1048576) (N0 : Int) (hN : cntE v F0 G0 L T = N0) (n0 : 0 ≤ N0) (n1 : N0 ≤ l) (X1 : Int) (hX1 : waitE v F0 G0 L T (l - m) = X1) (hml : m ≤ l) (hq : l < N0 + m) (X2 : Int) (hX2 : waitE v F0 G0 L T 0 = X2) :
    Calls Try.prog 11 #[.agg #[.int .i64 k, .int .i64 l, .int .i64 v, .int .i64 b], .agg #[.int .i64 a, .int .i64 0, .slice sa 0 sc, .slice ha n hc], .int .i64 t, .int .i64 m] w (ETold T L F0 G0 false (l - N0) (X1) X2 w) := by
  obtain ⟨l1, l2, v1, v2⟩ := h.bd
  have tb : a ≤ T ∧ T ≤ 1099511627776 := by rw [← hT]; unfold tmax; split <;> omega
  have tmm : (t < a ∧ T = a) ∨ (a ≤ t ∧ T = t) := by rw [← hT]; unfold tmax; split <;> omega
  obtain ⟨tb1, tb2⟩ := tb
  have MK := Lib.hid (fun u (hu : Below w.heap.size w u) => rMay_yes k l v b a sa ha sc n hc f g u h a1 a2 (hh.below hu) (by omega) hm)
  have TK := Lib.hid (fun u => rTime_yes t u t1 t2)
  have WK := Lib.hid (fun u => rWeighs_yes m u m1 m2)
  have CN := Lib.hid (fun A c u (hu : OwnH w.heap.size u (.slice A L c) L F0 G0) => by
    have := counts_any k l v b T A L c F0 G0 u hu.hits.1 bG (by omega) (by omega) (by omega) v1 v2
    rw [hN] at this
    exact this)
  have W2 := Lib.hid (fun A c u (hu : OwnH w.heap.size u (.slice A L c) L F0 G0) => by
    have := wait_any k l v b T 0 A L c F0 G0 u hu.hits.1 bF bG (by omega) (by omega) tb2 v1 v2
    rw [hX2] at this
    exact this)
  have W1 := Lib.hid (fun A c u (hu : OwnH w.heap.size u (.slice A L c) L F0 G0) => by
    have := wait_any k l v b T (l - m) A L c F0 G0 u hu.hits.1 bF bG (by omega) (by omega) tb2 v1 v2
    rw [hX1] at this
    exact this)
  have HF := Lib.hid (fun i (hi : i < L) => (show f (J + i) = F0 i ∧ g (J + i) = G0 i by rw [← hF0, ← hG0]; exact ⟨rfl, rfl⟩))
  have HH := Lib.hid hh
  have HJ := Lib.hid hJ
  have FB := Lib.hid (fun i hi => (show 0 ≤ f i ∧ f i ≤ 1099511627776 by have := hm.each i hi; omega))
  clear h hm hh hT hJ hF0 hG0 bF bG hN hX2 hX1
  have e1 : IntKind.i64.wrap (l - N0) = l - N0 := wrap_i (by omega) (by omega)
  have e2 : IntKind.i64.wrap (N0 + m) = N0 + m := wrap_i (by omega) (by omega)
  have e6 : IntKind.i64.wrap (T - v) = T - v := wrap_i (by omega) (by omega)
  have dq : decide (N0 + m ≤ l) = false := by simp; omega
  have e4 : IntKind.i64.wrap (l - m) = l - m := wrap_i (by omega) (by omega)
  have HP := Lib.hid (AskAt.made w k l v b a 0 (.slice sa 0 sc) (.slice ha n hc))
  have HC := Lib.hid (((made2 w 27 23 [.int .i64 a, .int .i64 0, .slice sa 0 sc, .slice ha n hc] (.cells #[.int .i64 k, .int .i64 l, .int .i64 v, .int .i64 b] 23)).alloc (.cells #[.int .i64 0, .int .i64 0, .slice none 0 0, .slice none 0 0] 27)).alloc (.cells #[.bool false, .int .i64 0, .int .i64 0, .int .i64 0] 32))
  go_enter Try.func11, Try.ntmps11
  go_wp2_with fail
  refine (MK.out _ HP.out.pc.be).mono ?_; rintro e w1 ⟨rfl, hb⟩
  have HQ := Lib.hid (HP.out.step hb)
  have HD := Lib.hid (HC.out.step hb)
  clear hb HP MK HC
  obtain ⟨z0, z1, z2, z3, z4, z5, z6, z7⟩ := HQ.out.pc.eight
  go_wp2_with fail
  refine (TK.out _).mono ?_; rintro e w' ⟨rfl, rfl⟩
  go_wp2_with fail
  refine (WK.out _).mono ?_; rintro e w' ⟨rfl, rfl⟩
  go_upto_region 3 with (fail)
  go_cut [2] (fun s2 wx => s2 = .int .i64 T ∧ w1 = wx)
  case first =>
    rcases tmm with ⟨q1, q2⟩ | ⟨q1, q2⟩
    · go_upto_region 4 with (fail)
      all_goals (go_meet; exact ⟨by rw [q2], rfl⟩)
    · go_upto_region 4 with (fail)
      all_goals (go_meet; exact ⟨by rw [q2], rfl⟩)
  case rest =>
  obtain ⟨rfl, rfl⟩ := hcut
  clear tmm
  have hz := AskAt.toLX (T := T) (f := F0) (g := G0) HQ.out HD.out
  have HZ := Lib.hid hz
  clear HQ HD hz z0 z1 z2 z3 z4 z5 z6 z7
  go_wp2_with fail
  have hz := HZ.out
  clear HZ
  generalize w1.alloc (.cells #[.int .i64 T, .int .i64 0, .slice none 0 0, .slice none 0 0] 27) = wz at hz ⊢
  generalize w1.heap.size = gD at hz ⊢
  have H0 := Lib.hid hz
  clear hz
  go_loopw [11] (fun vi wr => ∃ i : Nat, i ≤ n ∧ vi = .int .i64 (i : Int) ∧ ∃ (A : Option Addr) (q cap : Nat), Hid (i - J = q) ∧ LoopX w k l v b a T (.slice sa 0 sc) (.slice ha n hc) q F0 G0 (.slice A q cap) gD wr) (fun vi _ => n - (intOf vi).toNat)
  case atStart => exact ⟨0, Nat.zero_le _, rfl, none, 0, 0, Lib.hid (by omega), H0.out⟩
  case round =>
    obtain ⟨i, hi, rfl, A, q, cap, HI, hr⟩ := hrel
    have R1 := Lib.hid hr
    clear hr H0
    by_cases hlt : i < n
    · obtain ⟨⟨j0, j1, j2, j3⟩, ⟨j4, j5, j6, j7⟩, j8, j9, j10, j11⟩ := R1.out.twelve
      obtain ⟨b1, o1, rfl, hl, hce⟩ := HH.out (by omega)
      have q1 := (R1.out.be.cell (p := ⟨b1, o1 + i * 2, none⟩) hl).trans (hce i hlt).1
      have q2 := (R1.out.be.cell (p := ⟨b1, o1 + i * 2 + 1, none⟩) hl).trans (hce i hlt).2
      obtain ⟨y1, y2⟩ := FB.out i hlt
      obtain ⟨y, hy0⟩ : ∃ y, f i = y := ⟨_, rfl⟩
      obtain ⟨x, hx0⟩ : ∃ x, g i = x := ⟨_, rfl⟩
      have hji := HJ.out i hlt
      have HY := Lib.hid hy0
      have HX := Lib.hid hx0
      rw [hy0] at q1 y1 y2 hji
      rw [hx0] at q2
      clear hy0 hx0
      have X1 := Lib.hid (hce i hlt)
      clear hce
      have B0 : (0 : Int) ≤ (i : Int) := by omega
      have B1 : (i : Int) < (n : Int) := by omega
      by_cases hy : T - v < y
      · have hd : decide (T - v < y) = true := by simp; omega
        have hJi := hji.1 hy
        have hq := HI.out
        have HA := Lib.hid (HF.out q (by omega))
        have HS := Lib.hid (show J + q = i by omega)
        have HN := Lib.hid (show i + 1 - J = q + 1 by omega)
        have hq64 : q ≤ 64 := by omega
        clear hq hji hJi
        go_wp2_with fail
        go_quiet (fail)
        have R2 := Lib.hid (R1.out.drewN nq)
        clear R1 j0 j1 j2 j3 j4 j5 j6 j7 j8 j9 j10 j11 q1 q2
        go_wp2_with fail
        generalize wr.drewN nq = wq at R2 ⊢
        obtain ⟨⟨j0, j1, j2, j3⟩, ⟨j4, j5, j6, j7⟩, j8, j9, j10, j11⟩ := R2.out.twelve
        have q1 := (R2.out.be.cell (p := ⟨b1, o1 + i * 2, none⟩) hl).trans X1.out.1
        have q2 := (R2.out.be.cell (p := ⟨b1, o1 + i * 2 + 1, none⟩) hl).trans X1.out.2
        rw [HY.out] at q1
        rw [HX.out] at q2
        have g1 : gD < wq.heap.size := R2.out.d.lt
        have g2 : b1 < wq.heap.size := Nat.lt_of_lt_of_le hl R2.out.be.size
        have g3 : w.heap.size < wq.heap.size := by have := R2.out.p.lt; exact this
        have g4 : w.heap.size + 1 < wq.heap.size := R2.out.c.lt
        have R3 := Lib.hid (R2.out.step (((Below.refl _ _).alloc (Nat.le_refl _) (.cells #[.int .i64 y, .int .i64 x] 50)).drew))
        have RW := Lib.hid (show Has ((wq.alloc (.cells #[.int .i64 y, .int .i64 x] 50)).drew) wq.heap.size 50 [.int .i64 y, .int .i64 x] from has_drew (Has.made wq 50 [.int .i64 y, .int .i64 x]))
        go_region_law (refine step_appendH (B := w.heap.size) ((wq.alloc (.cells #[.int .i64 y, .int .i64 x] 50)).drew) wq.heap.size y x RW.out rfl (.tmp 56) (.tmp 62) rfl (.slice A q cap) q F0 G0 (by simp [Act.eval]) (by simp [Act.eval]) R3.out.s R3.out.be.size hq64 ?_; intro g' cap' w3 ho hk; have R4 := Lib.hid (R3.out.added hk ho); have u5 := (R3.out.dkept hk).loose; have u6 := (R3.out.dkept hk).cell 3; simp at u6; clear ho hk)
        all_goals
          go_wp2_with fail
          go_roundw
          case rel =>
            refine ⟨i + 1, by omega, by go_num, some ⟨g', 0, none⟩, q + 1, cap', HN, R4.out.congr (fun j hj => ?_)⟩
            unfold putF
            by_cases e : j = q
            · rw [if_pos e, if_pos e, e, ← HA.out.1, ← HA.out.2, HS.out]; exact ⟨HY.out.symm, HX.out.symm⟩
            · rw [if_neg e, if_neg e]; exact ⟨rfl, rfl⟩
          case measure => simp [intOf]; omega
      · have hd : decide (T - v < y) = false := by simp; omega
        have hJi : ¬ J ≤ i := fun e => hy (hji.2 e)
        have HN := Lib.hid (show i + 1 - J = q by have := HI.out; omega)
        clear hji hJi
        go_wp2_with fail
        go_quiet (fail)
        go_wp2_with fail
        go_roundw
        case rel => exact ⟨i + 1, by omega, by go_num, A, q, cap, HN, R1.out.drewN nq⟩
        case measure => simp [intOf]; omega
    · obtain rfl : q = L := by have := HI.out; omega
      have d3 : ¬ i < n := hlt
      obtain ⟨⟨j0, j1, j2, j3⟩, ⟨j4, j5, j6, j7⟩, j8, j9, j10, j11⟩ := R1.out.twelve
      go_wp2_with fail
      refine (CN.out A cap _ R1.out.s).mono ?_; rintro e w2 ⟨rfl, hb⟩
      have R2 := Lib.hid (R1.out.step hb)
      clear hb j0 j1 j2 j3 j4 j5 j6 j7 j8 j9 j10 j11 R1 CN
      obtain ⟨⟨j0, j1, j2, j3⟩, ⟨j4, j5, j6, j7⟩, j8, j9, j10, j11⟩ := R2.out.twelve
      have HZ := Lib.hid (R2.out.toX [.bool false, .int .i64 0, .int .i64 0, .int .i64 0])
      go_upto_region 12 with (fail)
      clear j0 j1 j2 j3 j4 j5 j6 j7 j8 j9 j10 j11
      have hz := HZ.out
      clear HZ R2
      generalize w2.alloc (.cells #[.bool false, .int .i64 0, .int .i64 0, .int .i64 0] 32) = wy at hz ⊢
      generalize w2.heap.size = gV at hz ⊢
      have H3 := Lib.hid hz
      clear hz
      obtain ⟨⟨j0, j1, j2, j3⟩, j4, j5, j6, j7⟩ := H3.out.eight
      obtain ⟨u0, u1, u2, u3⟩ := H3.out.v.four
      have u4 := H3.out.v.loose
      go_upto_region 21 with (fail)
      refine (W1.out A cap _ H3.out.s).mono ?_; rintro e w4 ⟨rfl, hb⟩
      have H3' := Lib.hid (H3.out.step hb)
      clear hb H3 W1 j0 j1 j2 j3 j4 j5 j6 j7 u0 u1 u2 u3 u4
      obtain ⟨⟨j0, j1, j2, j3⟩, j4, j5, j6, j7⟩ := H3'.out.eight
      obtain ⟨u0, u1, u2, u3⟩ := H3'.out.v.four
      have u4 := H3'.out.v.loose
      go_upto_region 21 with (fail)
      clear j0 j1 j2 j3 j4 j5 j6 j7 u0 u1 u2 u3 u4
      have hz := H3'.out.putV 2 (.int .i64 X1)
      replace hz : AskX w k l v b T q F0 G0 (.slice A q cap) gD gV [.bool false, .int .i64 0, .int .i64 X1, .int .i64 0] (w4.setCell ⟨gV, 2, none⟩ (.int .i64 X1)) := hz
      generalize w4.setCell ⟨gV, 2, none⟩ (.int .i64 X1) = wx at hz ⊢
      have H4 := Lib.hid hz
      clear hz H3'
      obtain ⟨⟨j0, j1, j2, j3⟩, j4, j5, j6, j7⟩ := H4.out.eight
      obtain ⟨u0, u1, u2, u3⟩ := H4.out.v.four
      have u4 := H4.out.v.loose
      go_upto_region 22 with (fail)
      clear j0 j1 j2 j3 j4 j5 j6 j7 u0 u1 u2 u3 u4
      have hz := H4.out.putV 1 (.int .i64 (l - N0))
      replace hz : AskX w k l v b T q F0 G0 (.slice A q cap) gD gV [.bool false, .int .i64 (l - N0), .int .i64 X1, .int .i64 0] (wx.setCell ⟨gV, 1, none⟩ (.int .i64 (l - N0))) := hz
      generalize wx.setCell ⟨gV, 1, none⟩ (.int .i64 (l - N0)) = w5 at hz ⊢
      have H6 := Lib.hid hz
      clear hz H4
      obtain ⟨⟨j0, j1, j2, j3⟩, j4, j5, j6, j7⟩ := H6.out.eight
      obtain ⟨u0, u1, u2, u3⟩ := H6.out.v.four
      have u4 := H6.out.v.loose
      go_upto_region 23 with (fail)
      refine (W2.out A cap _ H6.out.s).mono ?_; rintro e w7 ⟨rfl, hb⟩
      have H7 := Lib.hid (H6.out.step hb)
      clear hb j0 j1 j2 j3 j4 j5 j6 j7 u0 u1 u2 u3 u4 H6 W2
      obtain ⟨⟨j0, j1, j2, j3⟩, j4, j5, j6, j7⟩ := H7.out.eight
      obtain ⟨u0, u1, u2, u3⟩ := H7.out.v.four
      have u4 := H7.out.v.loose
      go_upto_region 23 with (fail)
      clear j0 j1 j2 j3 j4 j5 j6 j7 u0 u1 u2 u3 u4
      have hz := H7.out.putV 3 (.int .i64 X2)
      replace hz : AskX w k l v b T q F0 G0 (.slice A q cap) gD gV [.bool false, .int .i64 (l - N0), .int .i64 X1, .int .i64 X2] (w7.setCell ⟨gV, 3, none⟩ (.int .i64 X2)) := hz
      generalize w7.setCell ⟨gV, 3, none⟩ (.int .i64 X2) = w8 at hz ⊢
      have H8 := Lib.hid hz
      clear hz H7
      obtain ⟨⟨j0, j1, j2, j3⟩, j4, j5, j6, j7⟩ := H8.out.eight
      obtain ⟨u0, u1, u2, u3⟩ := H8.out.v.four
      obtain ⟨r0, r1, r2, r3, r4, r5, r6, r7, r8, r9⟩ := H8.out.res
      have g0 : gD ≠ w.heap.size + 1 + 1 := by have := H8.out.b1; omega
      have g1 : gD ≠ w.heap.size + 1 + 1 + 1 := by have := H8.out.b1; omega
      have g2 : gV ≠ w.heap.size + 1 + 1 := by have := H8.out.b3; omega
      have g3 : gV ≠ w.heap.size + 1 + 1 + 1 := by have := H8.out.b3; omega
      have g4 := Lib.hid (H8.out.s.ne H8.out.rc (by decide))
      have g5 := Lib.hid (H8.out.s.ne H8.out.rv (by decide))
      go_region
      all_goals go_wp2_with fail
      all_goals refine bodyPost_ret (v := .tuple #[.agg #[.int .i64 T, .int .i64 0, .slice none 0 0, .slice A q cap], .agg #[.bool false, .int .i64 (l - N0), .int .i64 X1, .int .i64 X2]]) (by simp [results, Try.results11, go_sem, r0, r1, r2, r3, r4, r5, r6, r7]) rfl ⟨_, rfl, ?_, ?_⟩
      all_goals repeat (first | with_reducible exact H8.out.be | with_reducible exact H8.out.s | with_reducible (refine Below.setCell ?_ (le3 _) _) | with_reducible (refine Below.setCell ?_ (le2 _) _) | with_reducible refine Below.drew ?_ | with_reducible refine ownH_drew ?_ | with_reducible (refine ownH_set ?_ g4.out _ _) | with_reducible (refine ownH_set ?_ g5.out _ _))

set_option maxRecDepth 100000 in
set_option maxHeartbeats 4000000 in
theorem rAskW_nv (k l v b a t m T : Int) (sa ha : Option Addr) (sc n hc J L : Nat) (f g F0 G0 : Nat → Int) (w : World) (h : EP k l v b) (a1 : 0 ≤ a) (a2 : a ≤ 1099511627776) (hh : HitsAt w ha n f g) (hn : n ≤ 60) (hm : MayHits l v a n f g) (t1 : 0 ≤ t) (t2 : t ≤ 1099511627776) (m1 : 1 ≤ m) (m2 : m ≤ 1048576) (hT : tmax t a = T) (hJ : ∀ i, i < n → (T - v < f i ↔ J ≤ i)) (hL : J + L = n) (hF0 : sh J f = F0) (hG0 : sh J g = G0) (bF : ∀ i, i < L → 0 ≤ F0 i ∧ F0 i ≤ 1099511627776) (bG : ∀ i, i < L → 0 ≤ G0 i ∧ G0 i ≤ 1048576) (N0 : Int) (hN : cntE v F0 G0 L T = N0) (n0 : 0 ≤ N0) (n1 : N0 ≤ l) (hml : l < m) (hq : l < N0 + m) (X2 : Int) (hX2 : waitE v F0 G0 L T 0 = X2) :
    Calls Try.prog 11 #[.agg #[.int .i64 k, .int .i64 l, .int .i64 v, .int .i64 b], .agg #[.int .i64 a, .int .i64 0, .slice sa 0 sc, .slice ha n hc], .int .i64 t, .int .i64 m] w (ETold T L F0 G0 false (l - N0) (2199023255552) X2 w) := by
  obtain ⟨l1, l2, v1, v2⟩ := h.bd
  have tb : a ≤ T ∧ T ≤ 1099511627776 := by rw [← hT]; unfold tmax; split <;> omega
  have tmm : (t < a ∧ T = a) ∨ (a ≤ t ∧ T = t) := by rw [← hT]; unfold tmax; split <;> omega
  obtain ⟨tb1, tb2⟩ := tb
  have MK := Lib.hid (fun u (hu : Below w.heap.size w u) => rMay_yes k l v b a sa ha sc n hc f g u h a1 a2 (hh.below hu) (by omega) hm)
  have TK := Lib.hid (fun u => rTime_yes t u t1 t2)
  have WK := Lib.hid (fun u => rWeighs_yes m u m1 m2)
  have CN := Lib.hid (fun A c u (hu : OwnH w.heap.size u (.slice A L c) L F0 G0) => by
    have := counts_any k l v b T A L c F0 G0 u hu.hits.1 bG (by omega) (by omega) (by omega) v1 v2
    rw [hN] at this
    exact this)
  have W2 := Lib.hid (fun A c u (hu : OwnH w.heap.size u (.slice A L c) L F0 G0) => by
    have := wait_any k l v b T 0 A L c F0 G0 u hu.hits.1 bF bG (by omega) (by omega) tb2 v1 v2
    rw [hX2] at this
    exact this)
  have HF := Lib.hid (fun i (hi : i < L) => (show f (J + i) = F0 i ∧ g (J + i) = G0 i by rw [← hF0, ← hG0]; exact ⟨rfl, rfl⟩))
  have HH := Lib.hid hh
  have HJ := Lib.hid hJ
  have FB := Lib.hid (fun i hi => (show 0 ≤ f i ∧ f i ≤ 1099511627776 by have := hm.each i hi; omega))
  clear h hm hh hT hJ hF0 hG0 bF bG hN hX2
  have e1 : IntKind.i64.wrap (l - N0) = l - N0 := wrap_i (by omega) (by omega)
  have e2 : IntKind.i64.wrap (N0 + m) = N0 + m := wrap_i (by omega) (by omega)
  have e6 : IntKind.i64.wrap (T - v) = T - v := wrap_i (by omega) (by omega)
  have dq : decide (N0 + m ≤ l) = false := by simp; omega
  have HP := Lib.hid (AskAt.made w k l v b a 0 (.slice sa 0 sc) (.slice ha n hc))
  have HC := Lib.hid (((made2 w 27 23 [.int .i64 a, .int .i64 0, .slice sa 0 sc, .slice ha n hc] (.cells #[.int .i64 k, .int .i64 l, .int .i64 v, .int .i64 b] 23)).alloc (.cells #[.int .i64 0, .int .i64 0, .slice none 0 0, .slice none 0 0] 27)).alloc (.cells #[.bool false, .int .i64 0, .int .i64 0, .int .i64 0] 32))
  go_enter Try.func11, Try.ntmps11
  go_wp2_with fail
  refine (MK.out _ HP.out.pc.be).mono ?_; rintro e w1 ⟨rfl, hb⟩
  have HQ := Lib.hid (HP.out.step hb)
  have HD := Lib.hid (HC.out.step hb)
  clear hb HP MK HC
  obtain ⟨z0, z1, z2, z3, z4, z5, z6, z7⟩ := HQ.out.pc.eight
  go_wp2_with fail
  refine (TK.out _).mono ?_; rintro e w' ⟨rfl, rfl⟩
  go_wp2_with fail
  refine (WK.out _).mono ?_; rintro e w' ⟨rfl, rfl⟩
  go_upto_region 3 with (fail)
  go_cut [2] (fun s2 wx => s2 = .int .i64 T ∧ w1 = wx)
  case first =>
    rcases tmm with ⟨q1, q2⟩ | ⟨q1, q2⟩
    · go_upto_region 4 with (fail)
      all_goals (go_meet; exact ⟨by rw [q2], rfl⟩)
    · go_upto_region 4 with (fail)
      all_goals (go_meet; exact ⟨by rw [q2], rfl⟩)
  case rest =>
  obtain ⟨rfl, rfl⟩ := hcut
  clear tmm
  have hz := AskAt.toLX (T := T) (f := F0) (g := G0) HQ.out HD.out
  have HZ := Lib.hid hz
  clear HQ HD hz z0 z1 z2 z3 z4 z5 z6 z7
  go_wp2_with fail
  have hz := HZ.out
  clear HZ
  generalize w1.alloc (.cells #[.int .i64 T, .int .i64 0, .slice none 0 0, .slice none 0 0] 27) = wz at hz ⊢
  generalize w1.heap.size = gD at hz ⊢
  have H0 := Lib.hid hz
  clear hz
  go_loopw [11] (fun vi wr => ∃ i : Nat, i ≤ n ∧ vi = .int .i64 (i : Int) ∧ ∃ (A : Option Addr) (q cap : Nat), Hid (i - J = q) ∧ LoopX w k l v b a T (.slice sa 0 sc) (.slice ha n hc) q F0 G0 (.slice A q cap) gD wr) (fun vi _ => n - (intOf vi).toNat)
  case atStart => exact ⟨0, Nat.zero_le _, rfl, none, 0, 0, Lib.hid (by omega), H0.out⟩
  case round =>
    obtain ⟨i, hi, rfl, A, q, cap, HI, hr⟩ := hrel
    have R1 := Lib.hid hr
    clear hr H0
    by_cases hlt : i < n
    · obtain ⟨⟨j0, j1, j2, j3⟩, ⟨j4, j5, j6, j7⟩, j8, j9, j10, j11⟩ := R1.out.twelve
      obtain ⟨b1, o1, rfl, hl, hce⟩ := HH.out (by omega)
      have q1 := (R1.out.be.cell (p := ⟨b1, o1 + i * 2, none⟩) hl).trans (hce i hlt).1
      have q2 := (R1.out.be.cell (p := ⟨b1, o1 + i * 2 + 1, none⟩) hl).trans (hce i hlt).2
      obtain ⟨y1, y2⟩ := FB.out i hlt
      obtain ⟨y, hy0⟩ : ∃ y, f i = y := ⟨_, rfl⟩
      obtain ⟨x, hx0⟩ : ∃ x, g i = x := ⟨_, rfl⟩
      have hji := HJ.out i hlt
      have HY := Lib.hid hy0
      have HX := Lib.hid hx0
      rw [hy0] at q1 y1 y2 hji
      rw [hx0] at q2
      clear hy0 hx0
      have X1 := Lib.hid (hce i hlt)
      clear hce
      have B0 : (0 : Int) ≤ (i : Int) := by omega
      have B1 : (i : Int) < (n : Int) := by omega
      by_cases hy : T - v < y
      · have hd : decide (T - v < y) = true := by simp; omega
        have hJi := hji.1 hy
        have hq := HI.out
        have HA := Lib.hid (HF.out q (by omega))
        have HS := Lib.hid (show J + q = i by omega)
        have HN := Lib.hid (show i + 1 - J = q + 1 by omega)
        have hq64 : q ≤ 64 := by omega
        clear hq hji hJi
        go_wp2_with fail
        go_quiet (fail)
        have R2 := Lib.hid (R1.out.drewN nq)
        clear R1 j0 j1 j2 j3 j4 j5 j6 j7 j8 j9 j10 j11 q1 q2
        go_wp2_with fail
        generalize wr.drewN nq = wq at R2 ⊢
        obtain ⟨⟨j0, j1, j2, j3⟩, ⟨j4, j5, j6, j7⟩, j8, j9, j10, j11⟩ := R2.out.twelve
        have q1 := (R2.out.be.cell (p := ⟨b1, o1 + i * 2, none⟩) hl).trans X1.out.1
        have q2 := (R2.out.be.cell (p := ⟨b1, o1 + i * 2 + 1, none⟩) hl).trans X1.out.2
        rw [HY.out] at q1
        rw [HX.out] at q2
        have g1 : gD < wq.heap.size := R2.out.d.lt
        have g2 : b1 < wq.heap.size := Nat.lt_of_lt_of_le hl R2.out.be.size
        have g3 : w.heap.size < wq.heap.size := by have := R2.out.p.lt; exact this
        have g4 : w.heap.size + 1 < wq.heap.size := R2.out.c.lt
        have R3 := Lib.hid (R2.out.step (((Below.refl _ _).alloc (Nat.le_refl _) (.cells #[.int .i64 y, .int .i64 x] 50)).drew))
        have RW := Lib.hid (show Has ((wq.alloc (.cells #[.int .i64 y, .int .i64 x] 50)).drew) wq.heap.size 50 [.int .i64 y, .int .i64 x] from has_drew (Has.made wq 50 [.int .i64 y, .int .i64 x]))
        go_region_law (refine step_appendH (B := w.heap.size) ((wq.alloc (.cells #[.int .i64 y, .int .i64 x] 50)).drew) wq.heap.size y x RW.out rfl (.tmp 56) (.tmp 62) rfl (.slice A q cap) q F0 G0 (by simp [Act.eval]) (by simp [Act.eval]) R3.out.s R3.out.be.size hq64 ?_; intro g' cap' w3 ho hk; have R4 := Lib.hid (R3.out.added hk ho); have u5 := (R3.out.dkept hk).loose; have u6 := (R3.out.dkept hk).cell 3; simp at u6; clear ho hk)
        all_goals
          go_wp2_with fail
          go_roundw
          case rel =>
            refine ⟨i + 1, by omega, by go_num, some ⟨g', 0, none⟩, q + 1, cap', HN, R4.out.congr (fun j hj => ?_)⟩
            unfold putF
            by_cases e : j = q
            · rw [if_pos e, if_pos e, e, ← HA.out.1, ← HA.out.2, HS.out]; exact ⟨HY.out.symm, HX.out.symm⟩
            · rw [if_neg e, if_neg e]; exact ⟨rfl, rfl⟩
          case measure => simp [intOf]; omega
      · have hd : decide (T - v < y) = false := by simp; omega
        have hJi : ¬ J ≤ i := fun e => hy (hji.2 e)
        have HN := Lib.hid (show i + 1 - J = q by have := HI.out; omega)
        clear hji hJi
        go_wp2_with fail
        go_quiet (fail)
        go_wp2_with fail
        go_roundw
        case rel => exact ⟨i + 1, by omega, by go_num, A, q, cap, HN, R1.out.drewN nq⟩
        case measure => simp [intOf]; omega
    · obtain rfl : q = L := by have := HI.out; omega
      have d3 : ¬ i < n := hlt
      obtain ⟨⟨j0, j1, j2, j3⟩, ⟨j4, j5, j6, j7⟩, j8, j9, j10, j11⟩ := R1.out.twelve
      go_wp2_with fail
      refine (CN.out A cap _ R1.out.s).mono ?_; rintro e w2 ⟨rfl, hb⟩
      have R2 := Lib.hid (R1.out.step hb)
      clear hb j0 j1 j2 j3 j4 j5 j6 j7 j8 j9 j10 j11 R1 CN
      obtain ⟨⟨j0, j1, j2, j3⟩, ⟨j4, j5, j6, j7⟩, j8, j9, j10, j11⟩ := R2.out.twelve
      have HZ := Lib.hid (R2.out.toX [.bool false, .int .i64 0, .int .i64 0, .int .i64 0])
      go_upto_region 12 with (fail)
      clear j0 j1 j2 j3 j4 j5 j6 j7 j8 j9 j10 j11
      have hz := HZ.out
      clear HZ R2
      generalize w2.alloc (.cells #[.bool false, .int .i64 0, .int .i64 0, .int .i64 0] 32) = wy at hz ⊢
      generalize w2.heap.size = gV at hz ⊢
      have H3 := Lib.hid hz
      clear hz
      obtain ⟨⟨j0, j1, j2, j3⟩, j4, j5, j6, j7⟩ := H3.out.eight
      obtain ⟨u0, u1, u2, u3⟩ := H3.out.v.four
      have u4 := H3.out.v.loose
      go_upto_region 21 with (fail)
      clear j0 j1 j2 j3 j4 j5 j6 j7 u0 u1 u2 u3 u4
      have hz := H3.out.putV 2 (.int .i64 2199023255552)
      replace hz : AskX w k l v b T q F0 G0 (.slice A q cap) gD gV [.bool false, .int .i64 0, .int .i64 2199023255552, .int .i64 0] (wy.setCell ⟨gV, 2, none⟩ (.int .i64 2199023255552)) := hz
      generalize wy.setCell ⟨gV, 2, none⟩ (.int .i64 2199023255552) = wx at hz ⊢
      have H4 := Lib.hid hz
      clear hz H3
      obtain ⟨⟨j0, j1, j2, j3⟩, j4, j5, j6, j7⟩ := H4.out.eight
      obtain ⟨u0, u1, u2, u3⟩ := H4.out.v.four
      have u4 := H4.out.v.loose
      go_upto_region 22 with (fail)
      clear j0 j1 j2 j3 j4 j5 j6 j7 u0 u1 u2 u3 u4
      have hz := H4.out.putV 1 (.int .i64 (l - N0))
      replace hz : AskX w k l v b T q F0 G0 (.slice A q cap) gD gV [.bool false, .int .i64 (l - N0), .int .i64 2199023255552, .int .i64 0] (wx.setCell ⟨gV, 1, none⟩ (.int .i64 (l - N0))) := hz
      generalize wx.setCell ⟨gV, 1, none⟩ (.int .i64 (l - N0)) = w5 at hz ⊢
      have H6 := Lib.hid hz
      clear hz H4
      obtain ⟨⟨j0, j1, j2, j3⟩, j4, j5, j6, j7⟩ := H6.out.eight
      obtain ⟨u0, u1, u2, u3⟩ := H6.out.v.four
      have u4 := H6.out.v.loose
      go_upto_region 23 with (fail)
      refine (W2.out A cap _ H6.out.s).mono ?_; rintro e w7 ⟨rfl, hb⟩
      have H7 := Lib.hid (H6.out.step hb)
      clear hb j0 j1 j2 j3 j4 j5 j6 j7 u0 u1 u2 u3 u4 H6 W2
      obtain ⟨⟨j0, j1, j2, j3⟩, j4, j5, j6, j7⟩ := H7.out.eight
      obtain ⟨u0, u1, u2, u3⟩ := H7.out.v.four
      have u4 := H7.out.v.loose
      go_upto_region 23 with (fail)
      clear j0 j1 j2 j3 j4 j5 j6 j7 u0 u1 u2 u3 u4
      have hz := H7.out.putV 3 (.int .i64 X2)
      replace hz : AskX w k l v b T q F0 G0 (.slice A q cap) gD gV [.bool false, .int .i64 (l - N0), .int .i64 2199023255552, .int .i64 X2] (w7.setCell ⟨gV, 3, none⟩ (.int .i64 X2)) := hz
      generalize w7.setCell ⟨gV, 3, none⟩ (.int .i64 X2) = w8 at hz ⊢
      have H8 := Lib.hid hz
      clear hz H7
      obtain ⟨⟨j0, j1, j2, j3⟩, j4, j5, j6, j7⟩ := H8.out.eight
      obtain ⟨u0, u1, u2, u3⟩ := H8.out.v.four
      obtain ⟨r0, r1, r2, r3, r4, r5, r6, r7, r8, r9⟩ := H8.out.res
      have g0 : gD ≠ w.heap.size + 1 + 1 := by have := H8.out.b1; omega
      have g1 : gD ≠ w.heap.size + 1 + 1 + 1 := by have := H8.out.b1; omega
      have g2 : gV ≠ w.heap.size + 1 + 1 := by have := H8.out.b3; omega
      have g3 : gV ≠ w.heap.size + 1 + 1 + 1 := by have := H8.out.b3; omega
      have g4 := Lib.hid (H8.out.s.ne H8.out.rc (by decide))
      have g5 := Lib.hid (H8.out.s.ne H8.out.rv (by decide))
      go_region
      all_goals go_wp2_with fail
      all_goals refine bodyPost_ret (v := .tuple #[.agg #[.int .i64 T, .int .i64 0, .slice none 0 0, .slice A q cap], .agg #[.bool false, .int .i64 (l - N0), .int .i64 2199023255552, .int .i64 X2]]) (by simp [results, Try.results11, go_sem, r0, r1, r2, r3, r4, r5, r6, r7]) rfl ⟨_, rfl, ?_, ?_⟩
      all_goals repeat (first | with_reducible exact H8.out.be | with_reducible exact H8.out.s | with_reducible (refine Below.setCell ?_ (le3 _) _) | with_reducible (refine Below.setCell ?_ (le2 _) _) | with_reducible refine Below.drew ?_ | with_reducible refine ownH_drew ?_ | with_reducible (refine ownH_set ?_ g4.out _ _) | with_reducible (refine ownH_set ?_ g5.out _ _))
end Go.Proofs.Ytgdcgilhaedbmaa
