/- For every policy, every cell and every two numbers the law RingEnds returns true: from its end on a cell is as one that is new. No condition. -/
import Derived.Test.YtbmjpfcnagodaaaRingEndsW
namespace Go.Proofs.Ytbmjpfcnagodaaa.ringEnds
open Go.ChangeShapes Go.WideShapes Go.ChangeAt Go.RowKit
set_option linter.unusedVariables false

theorem sum_zero {f : Nat → Int} {sn : Nat} (h : ∀ i, i < sn → 0 ≤ f i) (e : sumF f sn ≤ 0) (i : Nat) (hi : i < sn) : f i = 0 := by
  have := sumF_each h hi
  have := h i hi
  omega
/-- From its end on nothing is left of a ring. -/
theorem F0_zero {k l v b sl a t : Int} {sn : Nat} {f : Nat → Int} (h : RP k l v b sl) (a1 : 0 ≤ a) (hm : MaySums l b (a / sl) sn f) (hz : cntV b (a / sl) (tmax t a / sl) sn f = 0) (i : Nat) (hi : i < b.toNat) : rF0 b sl a t sn f i = 0 := by
  obtain ⟨l1, l2, v1, v2, b1, b2, s1, s2, hv⟩ := h.bd
  have hB : ((b.toNat : Nat) : Int) = b := by omega
  have M0 : 0 ≤ tmax t a / sl := Int.ediv_nonneg (by have := tmax_bd (t := t) (a := a); omega) (by omega)
  have mt : MaySums l b (tmax t a / sl) b.toNat (rF0 b sl a t sn f) := may_turn b1 hB hm (by omega) (Int.ediv_le_ediv (by omega) tmax_bd.1) M0
  refine sum_zero (fun i hi => (mt.each i hi).1) ?_ i hi
  rw [← cnt_all b1 hB mt.zero, cnt_F0 h hm (Int.le_refl _), hz]
  exact Int.le_refl _
theorem put_congr {f g : Nat → Int} {B j : Nat} {m : Int} (e : ∀ i, i < B → f i = g i) (hj : j < B) (i : Nat) (hi : i < B) : putF f j (f j + m) i = putF g j (g j + m) i := by
  unfold putF
  split
  · rw [e j hj]
  · exact e i hi
theorem go (k l v b sl a t m : Int) (sa ha : Option Addr) (sn sc hc : Nat) (f g1 g2 : Nat → Int) (W : World) (h : RP k l v b sl) (a1 : 0 ≤ a) (hm : MaySums l b (a / sl) sn f) (hf : SumsAt W sa sn f) (hn40 : sn ≤ 40) (t1 : 0 ≤ t) (t2 : t ≤ 274877906944) (a2 : a ≤ 274877906944) :
    Calls Try.prog 5 #[.agg #[.int .i64 k, .int .i64 l, .int .i64 v, .int .i64 b], .agg #[.int .i64 a, .int .i64 0, .slice sa sn sc, .slice ha 0 hc], .agg #[.int .i64 t, .int .i64 m]] W fun e w' => e = .returned (.bool true) ∧ Below W.heap.size W w' := by
  obtain ⟨l1, l2, v1, v2, b1, b2, s1, s2, hv⟩ := h.bd
  have hsl := h.s
  have hB : ((b.toNat : Nat) : Int) = b := by omega
  obtain ⟨d0, d1⟩ := div_bd a1 s1
  have nn := fun (X : Int) => cnt_nn (N := a / sl) (X := X) b1 hm.len (fun i hi => (hm.each i hi).1)
  obtain ⟨w0, w1, w2, _⟩ := wait_le (C := fun q => cntV b (a / sl) q sn f) (most := 0) hv s1 s2 a1 b1 b2 (by show _ ≤ _; rw [cnt_gone (Int.le_refl _)]; exact Int.le_refl _)
  have EN : ∀ u, Below W.heap.size W u → Calls Try.prog 17 #[.agg #[.int .i64 k, .int .i64 l, .int .i64 v, .int .i64 b], .agg #[.int .i64 a, .int .i64 0, .slice sa sn sc, .slice ha 0 hc]] u fun e w' => e = .returned (.int .i64 (a + waitV (fun q => cntV b (a / sl) q sn f) sl (a / sl) b a 0)) ∧ Below u.heap.size u w' := by
    intro u hu
    subst hsl
    exact Ends_yes k l v b a sa ha sn sc hc f u h a1 (by omega) hm (hf.below hu)
  generalize hU : a + waitV (fun q => cntV b (a / sl) q sn f) sl (a / sl) b a 0 = U at *
  have MK := fun u (hu : Below W.heap.size W u) => rMay_yes k l v b sl a sa ha sn sc hc f u h a1 (by omega) hm (hf.below hu)
  have hge : U / sl ≤ (U + t) / sl := Int.ediv_le_ediv (by omega) (by omega)
  have haU : a / sl ≤ U / sl := Int.ediv_le_ediv (by omega) (by omega)
  have hz : cntV b (a / sl) ((U + t) / sl) sn f = 0 := by
    obtain ⟨d, hd⟩ : ∃ d : Nat, (U + t) / sl = U / sl + d := ⟨((U + t) / sl - U / sl).toNat, by omega⟩
    have q1 := cnt_anti (N := a / sl) b1 hm.len (fun i hi => (hm.each i hi).1) haU d
    have q2 := nn (U / sl + d)
    rw [hd]
    omega
  have mN : MaySums l b ((U + t) / sl) 0 (fun _ => 0) := ⟨.inl rfl, fun i hi => absurd hi (by omega), by show (0 : Int) ≤ l; omega⟩
  by_cases x : 1 ≤ m ∧ m ≤ 1048576
  · have e1 : tmax (U + t) a = U + t := tmax_hi (by omega)
    have e2 : tmax (U + t) (U + t) = U + t := tmax_hi (Int.le_refl _)
    have K1 := fun u (hu : Below W.heap.size W u) => Ask_R (t := U + t) (m := m) (ha := ha) (sc := sc) (hc := hc) h a1 (by omega) hm u (hf.below hu) (by omega) (by omega) x.1 x.2 g1 g2
    have K2 := fun u => Ask_R (t := U + t) (m := m) (sa := none) (ha := none) (sc := 0) (hc := 0) h (show 0 ≤ U + t by omega) (by omega) mN u (SumsAt.nil _ _ _) (by omega) (by omega) x.1 x.2 g1 g2
    have z1 : ∀ i, i < b.toNat → rF0 b sl a (U + t) sn f i = rF0 b sl (U + t) (U + t) 0 (fun _ => 0) i := fun i hi => by
      rw [F0_zero h a1 hm (by rw [e1]; exact hz) i hi]
      unfold rF0 turnV inV
      rw [if_pos (.inr (.inr rfl))]
    rw [e1] at K1
    rw [e2] at K2
    have cc : ∀ X, cntV b ((U + t) / sl) X b.toNat (rF0 b sl a (U + t) sn f) = cntV b ((U + t) / sl) X b.toNat (rF0 b sl (U + t) (U + t) 0 (fun _ => 0)) := fun X => cnt_congr b1 hB z1
    have ea : rAl l b sl a (U + t) m sn f = rAl l b sl (U + t) (U + t) m 0 (fun _ => 0) := by unfold rAl; rw [e1, e2, cc]
    have p0 : 0 ≤ (U + t) / sl % b := Int.emod_nonneg _ (by omega)
    have p1 : (U + t) / sl % b < b := Int.emod_lt_of_pos _ (by omega)
    have zF : ∀ i, i < b.toNat → rF l b sl a (U + t) m sn f i = rF l b sl (U + t) (U + t) m 0 (fun _ => 0) i := fun i hi => by
      unfold rF
      rw [ea, e1, e2]
      split
      · exact put_congr z1 (by omega) i hi
      · exact z1 i hi
    have cF : ∀ X, cntV b ((U + t) / sl) X b.toNat (rF l b sl a (U + t) m sn f) = cntV b ((U + t) / sl) X b.toNat (rF l b sl (U + t) (U + t) m 0 (fun _ => 0)) := fun X => cnt_congr b1 hB zF
    have er : rRm l b sl a (U + t) m sn f = rRm l b sl (U + t) (U + t) m 0 (fun _ => 0) := by unfold rRm; rw [e1, e2, cF]
    have et : rRt l b sl a (U + t) m sn f = rRt l b sl (U + t) (U + t) m 0 (fun _ => 0) := by unfold rRt; rw [ea, e1, e2, funext cc]
    have es : rRs l b sl a (U + t) m sn f = rRs l b sl (U + t) (U + t) m 0 (fun _ => 0) := by unfold rRs; rw [e1, e2, funext cF]
    rw [ea, er, et, es] at K1
    exact w_yes k l v b a 0 t m sa ha sn sc 0 hc W hn40 (by decide) MK t1 t2 a1 a2 v1 v2 U (by omega) (by omega) x.1 x.2 (U + t) 0 b.toNat _ 0 g1 g2 _ _ _ _ (by omega) (by decide) EN (fun u hu => (K1 u hu).mono (fun _ _ q => q.congr zF (fun i hi => absurd hi (by omega)))) K2
  · have g : MayR k l v b a 0 sn 0 f := by subst hsl; exact ⟨h.p, h.k3, a1, by omega, rfl, rfl, hm⟩
    have gN : MayR k l v b (U + t) 0 0 0 (fun _ => 0) := by subst hsl; exact ⟨h.p, h.k3, by omega, by omega, rfl, rfl, mN⟩
    have m40 : sn ≤ maxLen := by unfold maxLen; omega
    refine w_no k l v b a 0 t m sa ha sn sc 0 hc W hn40 (by decide) MK t1 t2 a1 a2 v1 v2 U (by omega) (by omega) x f g1 g2 hf (HitsAt.nil _ _ _ _) (U + t) 0 0 (fun _ => 0) 0 g1 g2 EN (fun u hu => ?_) (fun u => ?_)
    · exact (Ask_n2 k l v b a 0 sa ha sn sc 0 hc f (U + t) m u g (by omega) (by omega) x m40 (by decide) (hf.below hu)).mono (fun _ _ ⟨he, hb⟩ => ⟨sa, ha, sc, hc, he, (hf.below hu).below hb, HitsAt.nil _ _ _ _, hb⟩)
    · exact (Ask_n2 k l v b (U + t) 0 none none 0 0 0 0 (fun _ => 0) (U + t) m u gN (by omega) (by omega) x (by decide) (by decide) (SumsAt.nil _ _ _)).mono (fun _ _ ⟨he, hb⟩ => ⟨none, none, 0, 0, he, SumsAt.nil _ _ _, HitsAt.nil _ _ _ _, hb⟩)

theorem walk (k l v b : Int) (c : CellV) (t m : Int) (h0 : (Lit.int .i64 k).wf = true) (h1 : (Lit.int .i64 l).wf = true) (h2 : (Lit.int .i64 v).wf = true) (h3 : (Lit.int .i64 b).wf = true) {W : World} (hc : IsCell W c) (i0 : (Lit.int .i64 t).wf = true) (i1 : (Lit.int .i64 m).wf = true) :
    Calls Try.prog 5 #[.agg #[.int .i64 k, .int .i64 l, .int .i64 v, .int .i64 b], .agg #[.int .i64 c.a, .int .i64 c.n, .slice c.sa c.sn c.sc, .slice c.ha c.hn c.hc], .agg ([t, m].map (Value.int .i64)).toArray] W fun e w' => e = .returned (.bool true) ∧ Below W.heap.size W w' := by
  obtain ⟨q1, q2⟩ := hc.len
  show Calls Try.prog 5 #[.agg #[.int .i64 k, .int .i64 l, .int .i64 v, .int .i64 b], .agg #[.int .i64 c.a, .int .i64 c.n, .slice c.sa c.sn c.sc, .slice c.ha c.hn c.hc], .agg #[.int .i64 t, .int .i64 m]] W fun e w' => e = .returned (.bool true) ∧ Below W.heap.size W w'
  obtain ⟨s1, _⟩ := hc.ss.at_
  clear hc
  obtain ⟨a, n, sa, ha, sn, sc, hn, hc, zs⟩ := c
  simp only at q1 q2 s1 ⊢
  generalize (fun i => zs.getD i 0) = f at s1
  by_cases few : sn ≤ 40 ∧ hn ≤ 40
  · by_cases g : MayR k l v b a n sn hn f
    · by_cases ht : 0 ≤ t ∧ t ≤ 274877906944 ∧ a ≤ 274877906944
      · have rp := g.rp
        obtain ⟨g1, g2, g3, g4, rfl, rfl, g7⟩ := g
        exact go k l v b _ a t m sa ha sn sc hc f (fun _ => 0) (fun _ => 0) W rp g3 g7 s1 few.1 ht.1 ht.2.1 ht.2.2
      · exact n2 k l v b a n t m sa ha sn sc hn hc W few.1 few.2 (fun u hu => g.ryes u (s1.below hu)) ht
    · exact n1 k l v b a n t m sa ha sn sc hn hc W few.1 few.2 (fun u hu => rMay_no k l v b a n sa ha sn sc hn hc u f g q1 q2 (s1.below hu))
  · exact n0 k l v b a n t m sa ha sn sc hn hc W few q1 q2

theorem own : ownKnob Try.prog.godebug = none := by kernel_rfl
theorem laidOut : laidOutB Try.prog = true := by kernel_rfl
theorem contract (H : Type) (enc : TypeId × Value → H) (W : World) (base : Nat) (args : Array Value) (ds gs : List (DataW H)) (before : List MemPlace)
    (hval : ∀ (j : Nat) t v, Try.f5.params[j]? = some t → args[j]? = some v → Value.okWide Try.prog W .any base t v)
    (hW : DataW.Whole enc Try.prog Try.f5.params.toList Rows.ringEndsSpec.vars false W args.toList ds gs before) :
    Calls Try.prog 5 args W fun e W' => ∃ v, e = .returned v ∧ Rows.ringEndsSpec.post enc Try.prog Try.f5 false true false false W args v W' := by
  have hW' := hW
  obtain ⟨p, q, hA0, hV, rfl, hfz, hnd⟩ := hW
  have hA : DataW.TrodAll enc Try.prog W 0 (fun _ => true) true Try.f5.params.toList args.toList ds p := hA0
  rw [Try.params5] at hA hval
  obtain ⟨v0, vs0, d0, ds0, p0, q0, hargs, rfl, rfl, h0, r0⟩ := trodAll_cons hA
  obtain ⟨v1, vs1, d1, ds1, p1, q1, rfl, rfl, rfl, h1, r1⟩ := trodAll_cons r0
  obtain ⟨v2, vs2, d2, ds2, p2, q2, rfl, rfl, rfl, h2, r2⟩ := trodAll_cons r1
  obtain ⟨rfl, rfl, rfl⟩ := trodAll_nil r2
  obtain rfl : args = #[v0, v1, v2] := by cases args; simp_all
  obtain ⟨rfl, rfl⟩ := trodVars_none hV
  have k0 := h0
  have lt0 : ∀ x ∈ p0, x.block < W.heap.size := by obtain ⟨m, hm⟩ := k0; exact DataW.trod_lt m _ _ _ hm
  obtain ⟨p0_k, p0_l, p0_v, p0_b, rfl, wp0_k, wp0_l, wp0_v, wp0_b⟩ := open_pol (hval 0 23 v0 rfl rfl) h0
  have k1 := h1
  have lt1 : ∀ x ∈ p1, x.block < W.heap.size := by obtain ⟨m, hm⟩ := k1; exact DataW.trod_lt m _ _ _ hm
  obtain ⟨c1, rfl, w1⟩ := open_cell (hval 1 27 v1 rfl rfl) h1
  have k2 := h2
  have lt2 : ∀ x ∈ p2, x.block < W.heap.size := by obtain ⟨m, hm⟩ := k2; exact DataW.trod_lt m _ _ _ hm
  obtain ⟨l2, rfl, hl2, wl2⟩ := open_arr_int Try.underlying28 Try.underlying3 (by kernel_rfl) (by kernel_rfl) (hval 2 28 v2 rfl rfl) h2
  obtain ⟨x2_0, x2_1, rfl⟩ : ∃ x2_0 x2_1, l2 = [x2_0, x2_1] := by
    match l2, hl2 with
    | [x2_0, x2_1], _ => exact ⟨x2_0, x2_1, rfl⟩
  clear hA0
  refine (walk p0_k p0_l p0_v p0_b c1 x2_0 x2_1 wp0_k wp0_l wp0_v wp0_b w1 (wl2 x2_0 (by simp)) (wl2 x2_1 (by simp))).mono fun e W' ⟨he, bel⟩ => ?_
  subst he
  exact ⟨_, rfl, _, _, _, [], _, [], hW', trodAll_mk1 (shut_bool Try.underlying4 _), (trodAll_cons_mk (Below.trod laidOut (by kernel_rfl) (of_decide_eq_true (by kernel_rfl)) k0 bel lt0) (trodAll_cons_mk (Below.trod laidOut (by kernel_rfl) (of_decide_eq_true (by kernel_rfl)) k1 bel lt1) (trodAll_cons_mk (Below.trod laidOut (by kernel_rfl) (of_decide_eq_true (by kernel_rfl)) k2 bel lt2) trodAll_mk0))), rfl, bel.frame _, fun h => by cases h⟩

set_option maxRecDepth 100000 in
theorem lifted (os : Os) (started : os.Started) (H : Type) (enc : TypeId × Value → H) :
    ReturnsInHanded {} Try.checked os 5 .any (Rows.ringEndsSpec.pre6 enc Try.prog Try.f5 Rows.ringEndsRow.domain false) (Rows.ringEndsSpec.post enc Try.prog Try.f5 false true false false) := by
  refine returnsInHanded_of_change (C := Try.checked) own started (by kernel_rfl) Try.func5
    (ChangeSpec.witness6 (enc := enc) (C := Try.checked) false ⟨#[], #[.agg #[.int .i64 0, .int .i64 0, .int .i64 0, .int .i64 0], .agg #[.int .i64 0, .int .i64 0, .slice none 0 0, .slice none 0 0], .agg #[.int .i64 0, .int .i64 0]], []⟩ 8 (by kernel_rfl) (by kernel_rfl) (by kernel_rfl) (by kernel_rfl)) ?_
  intro W base args ds gs before hval hW _ _
  exact contract H enc W base args ds gs before hval hW

theorem over : Rows.ringEndsRow.holds Try.pinned (OpenSpec.ofChange Rows.ringEndsSpec) :=
  OpenClaim.holds_of_wide 5 Try.f5 rfl rfl rfl rfl rfl rfl rfl ⟨rfl, rfl, rfl, rfl, rfl⟩ rfl rfl rfl rfl rfl (by kernel_rfl) Try.func5 (by kernel_rfl)
    (of_decide_eq_true (by kernel_rfl)) (by unfold Func.isWrapper; first | (rw [if_pos (by decide +kernel)]; kernel_rfl) | (rw [if_neg (by decide +kernel)]; exact ⟨rfl, rfl⟩))
    (fun os started H enc _ => lifted os started H enc)
end Go.Proofs.Ytbmjpfcnagodaaa.ringEnds
namespace Go.Proofs.Ytbmjpfcnagodaaa
theorem ringEnds_proved : Rows.RingEndsSaid := ringEnds.over
end Go.Proofs.Ytbmjpfcnagodaaa

