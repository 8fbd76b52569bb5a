/- For every policy, every cell and every two numbers the law ExactEnds returns true: from its end on a cell is as one that is new. No condition. -/
import Derived.Test.YtgdcgilhaedbmaaExactEndsW
import Derived.Test.YtgdcgilhaedbmaaEx14
namespace Go.Proofs.Ytgdcgilhaedbmaa.exactEnds
open Go.ChangeShapes Go.WideShapes Go.ChangeAt Go.RowKit
set_option linter.unusedVariables false

theorem go (k l v b a t m : Int) (sa ha : Option Addr) (sc n hc : Nat) (f g x : Nat → Int) (W : World) (h : EP k l v b) (a1 : 0 ≤ a) (hm : MayHits l v a n f g) (hf : HitsAt W ha n f g) (c1 : n ≤ hc) (c2 : hc ≤ maxLen) (t1 : 0 ≤ t) (t2 : t ≤ 274877906944) (a2 : a ≤ 274877906944) :
    Calls Try.prog 5 #[.agg #[.int .i64 k, .int .i64 l, .int .i64 v, .int .i64 b], .agg #[.int .i64 a, .int .i64 0, .slice sa 0 sc, .slice ha n hc], .agg #[.int .i64 t, .int .i64 m]] W fun e w' => e = .returned (.bool true) ∧ Below W.heap.size W w' := by
  obtain ⟨l1, l2, v1, v2⟩ := h.bd
  have hn := hm.len
  obtain ⟨_, w0, w1, w2, _, _⟩ := wait_spec hm (Int.le_refl 0) v1
  have EN := fun u (hu : Below W.heap.size W u) => Ends_yes k l v b a sa ha sc n hc f g u h a1 (by omega) hm (hf.below hu)
  generalize hU : a + waitE v f g n a 0 = U at *
  have MK := fun u (hu : Below W.heap.size W u) => rMay_yes k l v b a sa ha sc n hc f g u h a1 (by omega) (hf.below hu) (by omega) hm
  have hz : cntE v f g n (U + t) = 0 := by
    have q1 := cnt_anti (v := v) (t := U) (t' := U + t) (f := f) (fun i hi => hm.nn i hi) (by omega)
    have q2 := cnt_nn (v := v) (t := U + t) (f := f) (fun i hi => hm.nn i hi)
    omega
  have mN : MayHits l v (U + t) 0 (fun _ => 0) (fun _ => 0) := ⟨fun i hi => absurd hi (by omega), fun i hi => absurd hi (by omega), by show (0 : Int) ≤ l; omega⟩
  by_cases y : 1 ≤ m ∧ m ≤ 1048576
  · have e1 : tmax (U + t) a = U + t := tmax_hi (by omega)
    have e2 : tmax (U + t) (U + t) = U + t := tmax_hi (Int.le_refl _)
    have K1 := fun u (hu : Below W.heap.size W u) => Ask_E (t := U + t) (m := m) (sa := sa) (ha := ha) (sc := sc) (hc := hc) h a1 (by omega) hm u (hf.below hu) c1 c2 (by omega) (by omega) y.1 y.2 x
    have K2 := fun u => Ask_E (t := U + t) (m := m) (sa := none) (ha := none) (sc := 0) (hc := 0) h (show 0 ≤ U + t by omega) (by omega) mN u (HitsAt.nil _ _ _ _) (Nat.le_refl _) (Nat.zero_le _) (by omega) (by omega) y.1 y.2 x
    have hL0 : eL v a (U + t) n f = 0 := by
      have q1 := len_sum (may_F0 (t := U + t) hm)
      have q2 := cnt_sh (T := U + t) hm
      rw [hz] at q2
      have q3 : sumF (eG0 v a (U + t) n f g) (eL v a (U + t) n f) = 0 := by unfold eG0 eL eJ; rw [e1]; exact q2.symm
      omega
    have A := ask_alike (l := l) (v := v) (a := a) (t := U + t) (m := m) (n := n) (f := f) (g := g) (a' := U + t) (n' := 0) (f' := fun _ => 0) (g' := fun _ => 0) (by rw [e1, e2]) (by rw [hL0]; unfold eL; omega) (fun i hi => by rw [hL0] at hi; omega)
    have hN := (may_F (t := U + t) (m := m) hm y.1 a1 v1).len
    rw [e1, A.al, A.rm, A.rt, A.rs] at K1
    rw [e2, ← A.nn] at K2
    exact w_yes k l v b a 0 t m sa ha 0 sc n hc W (by decide) (by omega) MK t1 t2 a1 a2 v1 v2 U (by omega) (by omega) y.1 y.2 (U + t) 0 0 x _ _ _ _ _ _ _ (by decide) (by omega) EN (fun u hu => (K1 u hu).mono (fun _ _ q => q.congr (fun i hi => absurd hi (by omega)) A.fg)) K2
  · have q : MayE k l v b a 0 0 n f g := ⟨h, a1, by omega, rfl, rfl, hm⟩
    have qN : MayE k l v b (U + t) 0 0 0 (fun _ => 0) (fun _ => 0) := ⟨h, by omega, by omega, rfl, rfl, mN⟩
    refine w_no k l v b a 0 t m sa ha 0 sc n hc W (by decide) (by omega) MK t1 t2 a1 a2 v1 v2 U (by omega) (by omega) y x f g (SumsAt.nil _ _ _) hf (U + t) 0 0 x 0 (fun _ => 0) (fun _ => 0) EN (fun u hu => ?_) (fun u => ?_)
    · exact (Ask_n2 k l v b a 0 sa ha 0 sc n hc f g (U + t) m u q (by omega) (by omega) y (by decide) (by omega) (hf.below hu)).mono (fun _ _ ⟨he, hb⟩ => ⟨sa, ha, sc, hc, he, SumsAt.nil _ _ _, (hf.below hu).below hb, hb⟩)
    · exact (Ask_n2 k l v b (U + t) 0 none none 0 0 0 0 (fun _ => 0) (fun _ => 0) (U + t) m u qN (by omega) (by omega) y (by decide) (by decide) (HitsAt.nil _ _ _ _)).mono (fun _ _ ⟨he, hb⟩ => ⟨none, none, 0, 0, he, SumsAt.nil _ _ _, HitsAt.nil _ _ _ _, hb⟩)

theorem walk (k l v b : Int) (c : CellV) (t m : Int) (h0 : (Lit.int .i64 k).wf = true) (h1 : (Lit.int .i64 l).wf = true) (h2 : (Lit.int .i64 v).wf = true) (h3 : (Lit.int .i64 b).wf = true) {W : World} (hc : IsCell W c) (i0 : (Lit.int .i64 t).wf = true) (i1 : (Lit.int .i64 m).wf = true) :
    Calls Try.prog 5 #[.agg #[.int .i64 k, .int .i64 l, .int .i64 v, .int .i64 b], .agg #[.int .i64 c.a, .int .i64 c.n, .slice c.sa c.sn c.sc, .slice c.ha c.hn c.hc], .agg ([t, m].map (Value.int .i64)).toArray] W fun e w' => e = .returned (.bool true) ∧ Below W.heap.size W w' := by
  obtain ⟨q1, q2⟩ := hc.len
  show Calls Try.prog 5 #[.agg #[.int .i64 k, .int .i64 l, .int .i64 v, .int .i64 b], .agg #[.int .i64 c.a, .int .i64 c.n, .slice c.sa c.sn c.sc, .slice c.ha c.hn c.hc], .agg #[.int .i64 t, .int .i64 m]] W fun e w' => e = .returned (.bool true) ∧ Below W.heap.size W w'
  obtain ⟨f, g, s1⟩ := hc.hs.at_
  have c1 := hc.hs.1
  have c2 := hc.hs.2.1
  clear hc
  obtain ⟨a, n, sa, ha, sn, sc, hn, hc, zs⟩ := c
  simp only at q1 q2 s1 c1 c2 ⊢
  by_cases few : sn ≤ 40 ∧ hn ≤ 40
  · by_cases q : MayE k l v b a n sn hn f g
    · by_cases ht : 0 ≤ t ∧ t ≤ 274877906944 ∧ a ≤ 274877906944
      · obtain ⟨g1, g2, g3, rfl, rfl, g6⟩ := q
        exact go k l v b a t m sa ha sc hn hc f g (fun _ => 0) W g1 g2 g6 s1 c1 c2 ht.1 ht.2.1 ht.2.2
      · exact n2 k l v b a n t m sa ha sn sc hn hc W few.1 few.2 (fun u hu => q.ryes u (s1.below hu)) ht
    · exact n1 k l v b a n t m sa ha sn sc hn hc W few.1 few.2 (fun u hu => rMay_no k l v b a n sa ha sn sc hn hc u f g q q1 (by omega) (s1.below hu))
  · exact n0 k l v b a n t m sa ha sn sc hn hc W few q1 q2

theorem own : ownKnob Try.prog.godebug = none := by kernel_rfl
theorem laidOut : laidOutB Try.prog = true := by kernel_rfl
theorem contract (H : Type) (enc : TypeId × Value → H) (W : World) (base : Nat) (args : Array Value) (ds gs : List (DataW H)) (before : List MemPlace)
    (hval : ∀ (j : Nat) t v, Try.f5.params[j]? = some t → args[j]? = some v → Value.okWide Try.prog W .any base t v)
    (hW : DataW.Whole enc Try.prog Try.f5.params.toList Rows.exactEndsSpec.vars false W args.toList ds gs before) :
    Calls Try.prog 5 args W fun e W' => ∃ v, e = .returned v ∧ Rows.exactEndsSpec.post enc Try.prog Try.f5 false true false false W args v W' := by
  have hW' := hW
  obtain ⟨p, q, hA0, hV, rfl, hfz, hnd⟩ := hW
  have hA : DataW.TrodAll enc Try.prog W 0 (fun _ => true) true Try.f5.params.toList args.toList ds p := hA0
  rw [Try.params5] at hA hval
  obtain ⟨v0, vs0, d0, ds0, p0, q0, hargs, rfl, rfl, h0, r0⟩ := trodAll_cons hA
  obtain ⟨v1, vs1, d1, ds1, p1, q1, rfl, rfl, rfl, h1, r1⟩ := trodAll_cons r0
  obtain ⟨v2, vs2, d2, ds2, p2, q2, rfl, rfl, rfl, h2, r2⟩ := trodAll_cons r1
  obtain ⟨rfl, rfl, rfl⟩ := trodAll_nil r2
  obtain rfl : args = #[v0, v1, v2] := by cases args; simp_all
  obtain ⟨rfl, rfl⟩ := trodVars_none hV
  have k0 := h0
  have lt0 : ∀ x ∈ p0, x.block < W.heap.size := by obtain ⟨m, hm⟩ := k0; exact DataW.trod_lt m _ _ _ hm
  obtain ⟨p0_k, p0_l, p0_v, p0_b, rfl, wp0_k, wp0_l, wp0_v, wp0_b⟩ := open_pol (hval 0 23 v0 rfl rfl) h0
  have k1 := h1
  have lt1 : ∀ x ∈ p1, x.block < W.heap.size := by obtain ⟨m, hm⟩ := k1; exact DataW.trod_lt m _ _ _ hm
  obtain ⟨c1, rfl, w1⟩ := open_cell (hval 1 27 v1 rfl rfl) h1
  have k2 := h2
  have lt2 : ∀ x ∈ p2, x.block < W.heap.size := by obtain ⟨m, hm⟩ := k2; exact DataW.trod_lt m _ _ _ hm
  obtain ⟨l2, rfl, hl2, wl2⟩ := open_arr_int Try.underlying28 Try.underlying3 (by kernel_rfl) (by kernel_rfl) (hval 2 28 v2 rfl rfl) h2
  obtain ⟨x2_0, x2_1, rfl⟩ : ∃ x2_0 x2_1, l2 = [x2_0, x2_1] := by
    match l2, hl2 with
    | [x2_0, x2_1], _ => exact ⟨x2_0, x2_1, rfl⟩
  clear hA0
  refine (walk p0_k p0_l p0_v p0_b c1 x2_0 x2_1 wp0_k wp0_l wp0_v wp0_b w1 (wl2 x2_0 (by simp)) (wl2 x2_1 (by simp))).mono fun e W' ⟨he, bel⟩ => ?_
  subst he
  exact ⟨_, rfl, _, _, _, [], _, [], hW', trodAll_mk1 (shut_bool Try.underlying4 _), (trodAll_cons_mk (Below.trod laidOut (by kernel_rfl) (of_decide_eq_true (by kernel_rfl)) k0 bel lt0) (trodAll_cons_mk (Below.trod laidOut (by kernel_rfl) (of_decide_eq_true (by kernel_rfl)) k1 bel lt1) (trodAll_cons_mk (Below.trod laidOut (by kernel_rfl) (of_decide_eq_true (by kernel_rfl)) k2 bel lt2) trodAll_mk0))), rfl, bel.frame _, fun h => by cases h⟩

set_option maxRecDepth 100000 in
theorem lifted (os : Os) (started : os.Started) (H : Type) (enc : TypeId × Value → H) :
    ReturnsInHanded {} Try.checked os 5 .any (Rows.exactEndsSpec.pre6 enc Try.prog Try.f5 Rows.exactEndsRow.domain false) (Rows.exactEndsSpec.post enc Try.prog Try.f5 false true false false) := by
  refine returnsInHanded_of_change (C := Try.checked) own started (by kernel_rfl) Try.func5
    (ChangeSpec.witness6 (enc := enc) (C := Try.checked) false ⟨#[], #[.agg #[.int .i64 0, .int .i64 0, .int .i64 0, .int .i64 0], .agg #[.int .i64 0, .int .i64 0, .slice none 0 0, .slice none 0 0], .agg #[.int .i64 0, .int .i64 0]], []⟩ 8 (by kernel_rfl) (by kernel_rfl) (by kernel_rfl) (by kernel_rfl)) ?_
  intro W base args ds gs before hval hW _ _
  exact contract H enc W base args ds gs before hval hW

theorem over : Rows.exactEndsRow.holds Try.pinned (OpenSpec.ofChange Rows.exactEndsSpec) :=
  OpenClaim.holds_of_wide 5 Try.f5 rfl rfl rfl rfl rfl rfl rfl ⟨rfl, rfl, rfl, rfl, rfl⟩ rfl rfl rfl rfl rfl (by kernel_rfl) Try.func5 (by kernel_rfl)
    (of_decide_eq_true (by kernel_rfl)) (by unfold Func.isWrapper; first | (rw [if_pos (by decide +kernel)]; kernel_rfl) | (rw [if_neg (by decide +kernel)]; exact ⟨rfl, rfl⟩))
    (fun os started H enc _ => lifted os started H enc)
end Go.Proofs.Ytgdcgilhaedbmaa.exactEnds
namespace Go.Proofs.Ytgdcgilhaedbmaa
theorem exactEnds_proved : Rows.ExactEndsSaid := exactEnds.over
end Go.Proofs.Ytgdcgilhaedbmaa

