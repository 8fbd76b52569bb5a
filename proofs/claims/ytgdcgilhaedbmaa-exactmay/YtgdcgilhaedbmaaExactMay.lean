/- For every policy, every cell and every two numbers the law ExactMay returns true: of a cell that may be comes one that may be; what is told is right, and no sooner. No condition. -/
import Derived.Test.YtgdcgilhaedbmaaExactMayW
namespace Go.Proofs.Ytgdcgilhaedbmaa.exactMay
open Go.ChangeShapes Go.WideShapes Go.ChangeAt Go.RowKit
set_option linter.unusedVariables false

/-- The hits of the cell that came. -/
def Row (N : Nat) (F G : Nat → Int) (da : Option Addr) (dn dc : Nat) (ea : Option Addr) (en ec : Nat) (u : World) : Prop := dn = 0 ∧ en = N ∧ (N ≤ ec ∧ ec ≤ maxLen) ∧ HitsAt u ea N F G
theorem told_of {k l v b a t m : Int} {sa ha : Option Addr} {sc n hc : Nat} {f g : Nat → Int} {u : World} (h : EP k l v b) (a1 : 0 ≤ a) (a2 : a ≤ 1099511627776) (hm : MayHits l v a n f g) (hf : HitsAt u ha n f g) (c1 : n ≤ hc) (c2 : hc ≤ maxLen) (t1 : 0 ≤ t) (t2 : t ≤ 1099511627776) (m1 : 1 ≤ m) (m2 : m ≤ 1048576) {al : Bool} (e : eAl l v a t m n f g = al) :
    Calls Try.prog 10 #[.agg #[.int .i64 k, .int .i64 l, .int .i64 v, .int .i64 b], .agg #[.int .i64 a, .int .i64 0, .slice sa 0 sc, .slice ha n hc], .int .i64 t, .int .i64 m] u (Told al u) := by
  subst e
  refine (Ask_E h a1 a2 hm u hf c1 c2 t1 t2 m1 m2 (fun _ => 0)).mono ?_
  rintro _ w' ⟨da, ea, dc, ec, rfl, _, _, hb⟩
  exact ⟨_, _, _, _, _, _, _, _, _, _, _, rfl, hb⟩
theorem go (k l v b a t m : Int) (sa ha : Option Addr) (sc n hc : Nat) (f g : Nat → Int) (W : World) (h : EP k l v b) (a1 : 0 ≤ a) (hm : MayHits l v a n f g) (hf : HitsAt W ha n f g) (c1 : n ≤ hc) (c2 : hc ≤ maxLen) (t1 : 0 ≤ t) (t2 : t ≤ 549755813888) (a2 : a ≤ 549755813888) (m1 : 1 ≤ m) (m2 : m ≤ 1048576) :
    Calls Try.prog 4 #[.agg #[.int .i64 k, .int .i64 l, .int .i64 v, .int .i64 b], .agg #[.int .i64 a, .int .i64 0, .slice sa 0 sc, .slice ha n hc], .agg #[.int .i64 t, .int .i64 m]] W fun e w' => e = .returned (.bool true) ∧ Below W.heap.size W w' := by
  obtain ⟨l1, l2, v1, v2⟩ := h.bd
  have hn := hm.len
  have hT : (t < a ∧ tmax t a = a) ∨ (a ≤ t ∧ tmax t a = t) := by unfold tmax; split <;> omega
  have T0 : 0 ≤ tmax t a := by rcases hT with q | q <;> omega
  have T2 : tmax t a ≤ 549755813888 := by rcases hT with q | q <;> omega
  have mF := may_F (t := t) (m := m) hm m1 a1 v1
  have M0 := may_F0 (t := t) hm
  have hN := mF.len
  have htt : ∀ x, tmax t a ≤ x → tmax x (tmax t a) = x := fun x hx => tmax_hi hx
  have nn := fun (X : Int) => cnt_nn (v := v) (t := X) (f := eF l v a t m n f g) (fun i hi => mF.nn i hi)
  have hca := cnt_all mF
  have hcl := mF.all
  have hc0 := nn (tmax t a)
  have WR := wait_spec mF (Int.le_refl 0) v1
  have hrs : eRs l v a t m n f g = waitE v (eF l v a t m n f g) (eG l v a t m n f g) (eN l v a t m n f g) (tmax t a) 0 := rfl
  have hrm : eRm l v a t m n f g = l - sumF (eG l v a t m n f g) (eN l v a t m n f g) := rfl
  rw [← hrs] at WR
  obtain ⟨_, wr0, wr1, wr2, wr3, _⟩ := WR
  have hF0 : eAl l v a t m n f g = false → eN l v a t m n f g = eL v a t n f ∧ eF l v a t m n f g = eF0 v a t n f ∧ eG l v a t m n f g = eG0 v a t n f g := fun e => by
    have e' : ¬ eAl l v a t m n f g = true := by rw [e]; simp
    unfold eN eF eG
    rw [if_neg e', if_neg e', if_neg e']
    exact ⟨rfl, rfl, rfl⟩
  have hnal : eAl l v a t m n f g = false → l < sumF (eG l v a t m n f g) (eN l v a t m n f g) + m := fun e => by
    obtain ⟨q1, _, q3⟩ := hF0 e
    rw [q1, q3]
    rcases Int.lt_or_le l (sumF (eG0 v a t n f g) (eL v a t n f) + m) with c | c
    · exact c
    · rw [al_iff.2 c] at e; cases e
  have hrt : eAl l v a t m n f g = false → m ≤ l → eRt l v a t m n f g = waitE v (eF l v a t m n f g) (eG l v a t m n f g) (eN l v a t m n f g) (tmax t a) (l - m) := fun e hl => by
    obtain ⟨q1, q2, q3⟩ := hF0 e
    unfold eRt
    rw [if_neg (by rw [e]; simp), if_neg (by omega), q1, q2, q3]
  have WT := fun (hl : m ≤ l) => wait_spec mF (show 0 ≤ l - m by omega) v1
  have alB : ∀ (x y : Int) (q : Bool), tmax t a ≤ x → (cntE v (eF l v a t m n f g) (eG l v a t m n f g) (eN l v a t m n f g) x + y ≤ l ↔ q = true) → eAl l v (tmax t a) x y (eN l v a t m n f g) (eF l v a t m n f g) (eG l v a t m n f g) = q := fun x y q hx hq => by
    have h1 := al_cnt (t := x) (m := y) mF
    rw [htt x hx] at h1
    cases q
    · cases hr : eAl l v (tmax t a) x y (eN l v a t m n f g) (eF l v a t m n f g) (eG l v a t m n f g)
      · rfl
      · have := h1.1 hr; exact absurd (hq.1 this) (by simp)
    · exact h1.2 (hq.2 rfl)
  refine main (Row (eN l v a t m n f g) (eF l v a t m n f g) (eG l v a t m n f g)) k l v b a 0 t m sa ha 0 sc n hc W (tmax t a) 0 (eAl l v a t m n f g) (eRm l v a t m n f g) (eRt l v a t m n f g) (eRs l v a t m n f g) (by decide) (by omega) (fun u hu => rMay_yes k l v b a sa ha sc n hc f g u h a1 (by omega) (hf.below hu) (by omega) hm) t1 t2 a2 m1 m2
    (fun _ _ _ _ _ _ _ _ q hb => ⟨q.1, q.2.1, q.2.2.1, q.2.2.2.below hb⟩) ?_ ?_ hT T0 T2 ?_ (by omega) (by omega) (by omega) wr0 (by omega) ?_ (if 0 < eRs l v a t m n f g then cntE v (eF l v a t m n f g) (eG l v a t m n f g) (eN l v a t m n f g) (tmax t a + eRs l v a t m n f g - 1) else 1) ?_ ?_ ?_ ?_ ?_ ?_ ?_ ?_ (cntE v (eF l v a t m n f g) (eG l v a t m n f g) (eN l v a t m n f g) (tmax t a)) ?_ (by omega) hc0 (by omega)
  · intro u hu
    refine (Ask_E0 h a1 (by omega) hm u (hf.below hu) c1 c2 t1 (by omega) m1 m2).mono ?_
    rintro _ w' q
    obtain ⟨da, ea, dc, ec, hcap, rfl, q1, q2, hb⟩ := q.tellsH (fun _ => 0)
    exact ⟨da, _, dc, ea, _, ec, rfl, ⟨rfl, rfl, hcap, q2⟩, hb⟩
  · rintro da dn dc ea en ec u ⟨rfl, rfl, hcap, hs⟩
    exact May_yes k l v b _ da ea dc _ ec _ _ u h T0 (by omega) hs (by unfold maxLen; omega) mF
  · rintro hr da dn dc ea en ec u ⟨rfl, rfl, hcap, hs⟩
    refine told_of h T0 (by omega) mF hs hcap.1 hcap.2 T0 (by omega) (by omega) (by omega) (alB _ _ true (Int.le_refl _) ?_)
    simp; omega
  · rintro da dn dc ea en ec u ⟨rfl, rfl, hcap, hs⟩
    have := Total_T k l v b (tmax t a) da ea dc _ ec _ _ (tmax t a + eRs l v a t m n f g) _ u h T0 (by omega) mF hs hcap.1 hcap.2 (by omega) (by omega) (htt _ (by omega))
    rw [show cntE v (eF l v a t m n f g) (eG l v a t m n f g) (eN l v a t m n f g) (tmax t a + eRs l v a t m n f g) = 0 from Int.le_antisymm wr2 (nn _)] at this
    exact this
  · split
    · rename_i q; exact wr3 q
    · omega
  · rintro hs0 da dn dc ea en ec u ⟨rfl, rfl, hcap, hs⟩
    rw [if_pos hs0]
    exact Total_T k l v b (tmax t a) da ea dc _ ec _ _ (tmax t a + eRs l v a t m n f g - 1) _ u h T0 (by omega) mF hs hcap.1 hcap.2 (by omega) (by omega) (htt _ (by omega))
  · rintro da dn dc ea en ec u ⟨rfl, rfl, hcap, hs⟩
    exact Ends_yes k l v b (tmax t a) da ea dc _ ec _ _ u h T0 (by omega) mF hs
  · intro e; unfold eRt; rw [if_pos e]
  · intro e hl; unfold eRt; rw [if_neg (by rw [e]; simp), if_pos hl]
  · intro e hl
    obtain ⟨_, w0, w1, w2, w3, w4⟩ := WT hl
    rw [hrt e hl]
    have := hnal e
    refine ⟨?_, by omega⟩
    rcases Int.lt_or_eq_of_le w0 with q | q
    · exact q
    · have := w4.1 q.symm; omega
  · rintro e hl da dn dc ea en ec u ⟨rfl, rfl, hcap, hs⟩
    obtain ⟨_, w0, w1, w2, w3, w4⟩ := WT hl
    rw [hrt e hl]
    refine told_of h T0 (by omega) mF hs hcap.1 hcap.2 (by omega) (by omega) m1 m2 (alB _ _ true (by omega) ?_)
    simp; omega
  · rintro e hl da dn dc ea en ec u ⟨rfl, rfl, hcap, hs⟩
    obtain ⟨_, w0, w1, w2, w3, w4⟩ := WT hl
    have hpos : 0 < waitE v (eF l v a t m n f g) (eG l v a t m n f g) (eN l v a t m n f g) (tmax t a) (l - m) := by
      have := hnal e
      rcases Int.lt_or_eq_of_le w0 with q | q
      · exact q
      · have := w4.1 q.symm; omega
    rw [hrt e hl]
    have w5 := w3 hpos
    refine told_of h T0 (by omega) mF hs hcap.1 hcap.2 (by omega) (by omega) m1 m2 (alB _ _ false (by omega) ?_)
    simp; omega
  · rintro da dn dc ea en ec u ⟨rfl, rfl, hcap, hs⟩
    exact Total_T k l v b (tmax t a) da ea dc _ ec _ _ (tmax t a) _ u h T0 (by omega) mF hs hcap.1 hcap.2 T0 (by omega) (htt _ (Int.le_refl _))

theorem walk (k l v b : Int) (c : CellV) (t m : Int) (h0 : (Lit.int .i64 k).wf = true) (h1 : (Lit.int .i64 l).wf = true) (h2 : (Lit.int .i64 v).wf = true) (h3 : (Lit.int .i64 b).wf = true) {W : World} (hc : IsCell W c) (i0 : (Lit.int .i64 t).wf = true) (i1 : (Lit.int .i64 m).wf = true) :
    Calls Try.prog 4 #[.agg #[.int .i64 k, .int .i64 l, .int .i64 v, .int .i64 b], .agg #[.int .i64 c.a, .int .i64 c.n, .slice c.sa c.sn c.sc, .slice c.ha c.hn c.hc], .agg ([t, m].map (Value.int .i64)).toArray] W fun e w' => e = .returned (.bool true) ∧ Below W.heap.size W w' := by
  obtain ⟨q1, q2⟩ := hc.len
  show Calls Try.prog 4 #[.agg #[.int .i64 k, .int .i64 l, .int .i64 v, .int .i64 b], .agg #[.int .i64 c.a, .int .i64 c.n, .slice c.sa c.sn c.sc, .slice c.ha c.hn c.hc], .agg #[.int .i64 t, .int .i64 m]] W fun e w' => e = .returned (.bool true) ∧ Below W.heap.size W w'
  obtain ⟨f, g, s1⟩ := hc.hs.at_
  have c1 := hc.hs.1
  have c2 := hc.hs.2.1
  clear hc
  obtain ⟨a, n, sa, ha, sn, sc, hn, hc, zs⟩ := c
  simp only at q1 q2 s1 c1 c2 ⊢
  by_cases few : sn ≤ 40 ∧ hn ≤ 40
  · by_cases q : MayE k l v b a n sn hn f g
    · by_cases ht : 0 ≤ t ∧ t ≤ 549755813888 ∧ a ≤ 549755813888
      · by_cases x : 1 ≤ m ∧ m ≤ 1048576
        · obtain ⟨g1, g2, g3, rfl, rfl, g6⟩ := q
          exact go k l v b a t m sa ha sc hn hc f g W g1 g2 g6 s1 c1 c2 ht.1 ht.2.1 ht.2.2 x.1 x.2
        · exact n3 k l v b a n t m sa ha sn sc hn hc W few.1 few.2 (fun u hu => q.ryes u (s1.below hu)) ht.1 ht.2.1 ht.2.2 x
      · exact n2 k l v b a n t m sa ha sn sc hn hc W few.1 few.2 (fun u hu => q.ryes u (s1.below hu)) (by omega)
    · exact n1 k l v b a n t m sa ha sn sc hn hc W few.1 few.2 (fun u hu => rMay_no k l v b a n sa ha sn sc hn hc u f g q q1 (by omega) (s1.below hu))
  · exact n0 k l v b a n t m sa ha sn sc hn hc W few q1 q2

theorem own : ownKnob Try.prog.godebug = none := by kernel_rfl
theorem laidOut : laidOutB Try.prog = true := by kernel_rfl
theorem contract (H : Type) (enc : TypeId × Value → H) (W : World) (base : Nat) (args : Array Value) (ds gs : List (DataW H)) (before : List MemPlace)
    (hval : ∀ (j : Nat) t v, Try.f4.params[j]? = some t → args[j]? = some v → Value.okWide Try.prog W .any base t v)
    (hW : DataW.Whole enc Try.prog Try.f4.params.toList Rows.exactMaySpec.vars false W args.toList ds gs before) :
    Calls Try.prog 4 args W fun e W' => ∃ v, e = .returned v ∧ Rows.exactMaySpec.post enc Try.prog Try.f4 false true false false W args v W' := by
  have hW' := hW
  obtain ⟨p, q, hA0, hV, rfl, hfz, hnd⟩ := hW
  have hA : DataW.TrodAll enc Try.prog W 0 (fun _ => true) true Try.f4.params.toList args.toList ds p := hA0
  rw [Try.params4] at hA hval
  obtain ⟨v0, vs0, d0, ds0, p0, q0, hargs, rfl, rfl, h0, r0⟩ := trodAll_cons hA
  obtain ⟨v1, vs1, d1, ds1, p1, q1, rfl, rfl, rfl, h1, r1⟩ := trodAll_cons r0
  obtain ⟨v2, vs2, d2, ds2, p2, q2, rfl, rfl, rfl, h2, r2⟩ := trodAll_cons r1
  obtain ⟨rfl, rfl, rfl⟩ := trodAll_nil r2
  obtain rfl : args = #[v0, v1, v2] := by cases args; simp_all
  obtain ⟨rfl, rfl⟩ := trodVars_none hV
  have k0 := h0
  have lt0 : ∀ x ∈ p0, x.block < W.heap.size := by obtain ⟨m, hm⟩ := k0; exact DataW.trod_lt m _ _ _ hm
  obtain ⟨p0_k, p0_l, p0_v, p0_b, rfl, wp0_k, wp0_l, wp0_v, wp0_b⟩ := open_pol (hval 0 23 v0 rfl rfl) h0
  have k1 := h1
  have lt1 : ∀ x ∈ p1, x.block < W.heap.size := by obtain ⟨m, hm⟩ := k1; exact DataW.trod_lt m _ _ _ hm
  obtain ⟨c1, rfl, w1⟩ := open_cell (hval 1 27 v1 rfl rfl) h1
  have k2 := h2
  have lt2 : ∀ x ∈ p2, x.block < W.heap.size := by obtain ⟨m, hm⟩ := k2; exact DataW.trod_lt m _ _ _ hm
  obtain ⟨l2, rfl, hl2, wl2⟩ := open_arr_int Try.underlying28 Try.underlying3 (by kernel_rfl) (by kernel_rfl) (hval 2 28 v2 rfl rfl) h2
  obtain ⟨x2_0, x2_1, rfl⟩ : ∃ x2_0 x2_1, l2 = [x2_0, x2_1] := by
    match l2, hl2 with
    | [x2_0, x2_1], _ => exact ⟨x2_0, x2_1, rfl⟩
  clear hA0
  refine (walk p0_k p0_l p0_v p0_b c1 x2_0 x2_1 wp0_k wp0_l wp0_v wp0_b w1 (wl2 x2_0 (by simp)) (wl2 x2_1 (by simp))).mono fun e W' ⟨he, bel⟩ => ?_
  subst he
  exact ⟨_, rfl, _, _, _, [], _, [], hW', trodAll_mk1 (shut_bool Try.underlying4 _), (trodAll_cons_mk (Below.trod laidOut (by kernel_rfl) (of_decide_eq_true (by kernel_rfl)) k0 bel lt0) (trodAll_cons_mk (Below.trod laidOut (by kernel_rfl) (of_decide_eq_true (by kernel_rfl)) k1 bel lt1) (trodAll_cons_mk (Below.trod laidOut (by kernel_rfl) (of_decide_eq_true (by kernel_rfl)) k2 bel lt2) trodAll_mk0))), rfl, bel.frame _, fun h => by cases h⟩

set_option maxRecDepth 100000 in
theorem lifted (os : Os) (started : os.Started) (H : Type) (enc : TypeId × Value → H) :
    ReturnsInHanded {} Try.checked os 4 .any (Rows.exactMaySpec.pre6 enc Try.prog Try.f4 Rows.exactMayRow.domain false) (Rows.exactMaySpec.post enc Try.prog Try.f4 false true false false) := by
  refine returnsInHanded_of_change (C := Try.checked) own started (by kernel_rfl) Try.func4
    (ChangeSpec.witness6 (enc := enc) (C := Try.checked) false ⟨#[], #[.agg #[.int .i64 0, .int .i64 0, .int .i64 0, .int .i64 0], .agg #[.int .i64 0, .int .i64 0, .slice none 0 0, .slice none 0 0], .agg #[.int .i64 0, .int .i64 0]], []⟩ 8 (by kernel_rfl) (by kernel_rfl) (by kernel_rfl) (by kernel_rfl)) ?_
  intro W base args ds gs before hval hW _ _
  exact contract H enc W base args ds gs before hval hW

theorem over : Rows.exactMayRow.holds Try.pinned (OpenSpec.ofChange Rows.exactMaySpec) :=
  OpenClaim.holds_of_wide 4 Try.f4 rfl rfl rfl rfl rfl rfl rfl ⟨rfl, rfl, rfl, rfl, rfl⟩ rfl rfl rfl rfl rfl (by kernel_rfl) Try.func4 (by kernel_rfl)
    (of_decide_eq_true (by kernel_rfl)) (by unfold Func.isWrapper; first | (rw [if_pos (by decide +kernel)]; kernel_rfl) | (rw [if_neg (by decide +kernel)]; exact ⟨rfl, rfl⟩))
    (fun os started H enc _ => lifted os started H enc)
end Go.Proofs.Ytgdcgilhaedbmaa.exactMay
namespace Go.Proofs.Ytgdcgilhaedbmaa
theorem exactMay_proved : Rows.ExactMaySaid := exactMay.over
end Go.Proofs.Ytgdcgilhaedbmaa

