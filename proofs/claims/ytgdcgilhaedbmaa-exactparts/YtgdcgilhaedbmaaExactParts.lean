/- For every policy, every cell and every three numbers the law ExactParts returns true: two weights, one behind the other at one time, are both let in just where both together are at once, and leave the same cell. No condition. -/
import Derived.Test.YtgdcgilhaedbmaaExactPartsW
import Derived.Test.YtgdcgilhaedbmaaEx14
namespace Go.Proofs.Ytgdcgilhaedbmaa.exactParts
open Go.ChangeShapes Go.WideShapes Go.ChangeAt Go.RowKit
set_option linter.unusedVariables false

theorem eN_same {l v a t m : Int} {n : Nat} {f g : Nat → Int} (e : eAl l v a t m n f g = true) (d : eSame v a t n f = true) : eN l v a t m n f g = eL v a t n f := by unfold eN; rw [if_pos e, if_pos d]
theorem eF_same {l v a t m : Int} {n : Nat} {f g : Nat → Int} (e : eAl l v a t m n f g = true) (d : eSame v a t n f = true) : eF l v a t m n f g = eF0 v a t n f := by unfold eF; rw [if_pos e, if_pos d]
theorem eG_same {l v a t m : Int} {n : Nat} {f g : Nat → Int} (e : eAl l v a t m n f g = true) (d : eSame v a t n f = true) : eG l v a t m n f g = putF (eG0 v a t n f g) (eL v a t n f - 1) (eG0 v a t n f g (eL v a t n f - 1) + m) := by unfold eG; rw [if_pos e, if_pos d]
theorem go (k l v b a t m m' : Int) (sa ha : Option Addr) (sc n hc : Nat) (f g x : Nat → Int) (W : World) (h : EP k l v b) (a1 : 0 ≤ a) (a2 : a ≤ 1099511627776) (hm : MayHits l v a n f g) (hf : HitsAt W ha n f g) (c1 : n ≤ hc) (c2 : hc ≤ maxLen) (x1 : 1 ≤ m) (x2 : m ≤ 1048576) (y1 : 1 ≤ m') (y2 : m' ≤ 1048576) (z1 : 1 ≤ m + m') (z2 : m + m' ≤ 1048576) (t1 : 0 ≤ t) (t2 : t ≤ 1099511627776) :
    Calls Try.prog 7 #[.agg #[.int .i64 k, .int .i64 l, .int .i64 v, .int .i64 b], .agg #[.int .i64 a, .int .i64 0, .slice sa 0 sc, .slice ha n hc], .agg #[.int .i64 t, .int .i64 m, .int .i64 m']] W fun e w' => e = .returned (.bool true) ∧ Below W.heap.size W w' := by
  obtain ⟨l1, l2, v1, v2⟩ := h.bd
  have hn := hm.len
  have T1 := tmax_bd (t := t) (a := a)
  have T2 : tmax t a ≤ 1099511627776 := by unfold tmax; split <;> omega
  have mF := may_F (t := t) (m := m) hm x1 a1 v1
  have hN := mF.len
  have MK := fun u (hu : Below W.heap.size W u) => rMay_yes k l v b a sa ha sc n hc f g u h a1 a2 (hf.below hu) (by omega) hm
  have K1 := fun u (hu : Below W.heap.size W u) => (Ask_E0 (t := t) (m := m) (sa := sa) (ha := ha) (sc := sc) (hc := hc) h a1 a2 hm u (hf.below hu) c1 c2 t1 t2 x1 x2).mono (fun _ _ q => q.tellsH x)
  have K2 := fun a1' e1 k1 d1 u (hcap : eN l v a t m n f g ≤ d1 ∧ d1 ≤ maxLen) (_ : SumsAt u a1' 0 x) (hu : HitsAt u e1 (eN l v a t m n f g) (eF l v a t m n f g) (eG l v a t m n f g)) => Ask_E (t := t) (m := m') (sa := a1') (ha := e1) (sc := k1) (hc := d1) h (show 0 ≤ tmax t a by omega) T2 mF u hu hcap.1 hcap.2 t1 t2 y1 y2 x
  have K3 := fun u (hu : Below W.heap.size W u) => Ask_E (t := t) (m := m + m') (sa := sa) (ha := ha) (sc := sc) (hc := hc) h a1 a2 hm u (hf.below hu) c1 c2 t1 t2 z1 z2 x
  have i1 := al_iff (l := l) (v := v) (a := a) (t := t) (m := m) (n := n) (f := f) (g := g)
  have i2 := al_cnt (t := t) (m := m') mF
  have i3 := al_iff (l := l) (v := v) (a := a) (t := t) (m := m + m') (n := n) (f := f) (g := g)
  rw [tmax_tmax, cnt_all mF, sum_F hm] at i2
  rw [tmax_tmax] at K2
  cases e1 : eAl l v a t m n f g with
  | false =>
    have n1 : ¬ sumF (eG0 v a t n f g) (eL v a t n f) + m ≤ l := fun q => by rw [i1.2 q] at e1; cases e1
    have e3 : eAl l v a t (m + m') n f g = false := by
      cases q : eAl l v a t (m + m') n f g with
      | false => rfl
      | true => have := i3.1 q; omega
    rw [e1] at K1
    rw [e3] at K3
    exact y_f k l v b a 0 t m m' sa ha 0 sc n hc W (by decide) (by omega) MK x1 x2 y1 y2 z1 z2 t1 t2 _ _ _ _ _ _ _ _ _ _ _ _ _ _ _ _ _ _ _ _ _ _ _ _ _ _ _ _ _ _ _ K1 K2 K3
  | true =>
    rw [e1] at i2
    rw [if_pos rfl] at i2
    cases e2 : eAl l v (tmax t a) t m' (eN l v a t m n f g) (eF l v a t m n f g) (eG l v a t m n f g) with
    | false =>
      have e3 : eAl l v a t (m + m') n f g = false := by
        cases q : eAl l v a t (m + m') n f g with
        | false => rfl
        | true =>
          have := i3.1 q
          rw [i2.2 (by omega)] at e2
          cases e2
      rw [e1] at K1
      rw [e2] at K2
      rw [e3] at K3
      exact y_tf k l v b a 0 t m m' sa ha 0 sc n hc W (by decide) (by omega) MK x1 x2 y1 y2 z1 z2 t1 t2 _ _ _ _ _ _ _ _ _ _ _ _ _ _ _ _ _ _ _ _ _ _ _ _ _ _ _ _ _ _ K1 K2 K3
    | true =>
      have q2 := i2.1 e2
      have e3 : eAl l v a t (m + m') n f g = true := i3.2 (by omega)
      obtain ⟨o1, o2, o3⟩ := own_time mF t T1.2
      obtain ⟨p1, p2⟩ := last_T e1
      have sm : eSame v (tmax t a) t (eN l v a t m n f g) (eF l v a t m n f g) = true := same_iff.2 (by rw [o1, o2, tmax_tmax]; exact ⟨p1, p2⟩)
      -- the second ask's cell is that of both at once
      have n2 : eN l v (tmax t a) t m' (eN l v a t m n f g) (eF l v a t m n f g) (eG l v a t m n f g) = eN l v a t m n f g := by
        rw [eN_same e2 sm, o1]
      have n3 : eN l v a t (m + m') n f g = eN l v a t m n f g := by unfold eN; rw [if_pos e1, if_pos e3]
      have f2 : ∀ i, eF l v (tmax t a) t m' (eN l v a t m n f g) (eF l v a t m n f g) (eG l v a t m n f g) i = eF l v a t m n f g i := fun i => by
        rw [eF_same e2 sm, o2]
      have f3 : eF l v a t (m + m') n f g = eF l v a t m n f g := by unfold eF; rw [if_pos e1, if_pos e3]
      have g2 : ∀ i, eG l v (tmax t a) t m' (eN l v a t m n f g) (eF l v a t m n f g) (eG l v a t m n f g) i = if i = eN l v a t m n f g - 1 then eG l v a t m n f g (eN l v a t m n f g - 1) + m' else eG l v a t m n f g i := fun i => by
        rw [eG_same e2 sm, o1]
        unfold putF
        rw [o3, o3]
      have g3 : ∀ i, eG l v a t (m + m') n f g i = if i = eN l v a t m n f g - 1 then eG l v a t m n f g (eN l v a t m n f g - 1) + m' else eG l v a t m n f g i := fun i => by
        unfold eG eN
        rw [if_pos e1, if_pos e1, if_pos e3]
        by_cases d : eSame v a t n f = true
        · rw [if_pos d, if_pos d, if_pos d]
          unfold putF
          by_cases c : i = eL v a t n f - 1
          · rw [if_pos c, if_pos c, if_pos rfl]; omega
          · rw [if_neg c, if_neg c, if_neg c]
        · rw [if_neg d, if_neg d, if_neg d, show eL v a t n f + 1 - 1 = eL v a t n f from rfl]
          unfold putF
          by_cases c : i = eL v a t n f
          · rw [if_pos c, if_pos c, if_pos rfl]
          · rw [if_neg c, if_neg c, if_neg c]
      have zz : ∀ i, i < eN l v a t m n f g → eF l v (tmax t a) t m' (eN l v a t m n f g) (eF l v a t m n f g) (eG l v a t m n f g) i = eF l v a t (m + m') n f g i ∧ eG l v (tmax t a) t m' (eN l v a t m n f g) (eF l v a t m n f g) (eG l v a t m n f g) i = eG l v a t (m + m') n f g i := fun i hi => by
        rw [f2, f3, g2, g3]; exact ⟨rfl, rfl⟩
      have er : eRm l v (tmax t a) t m' (eN l v a t m n f g) (eF l v a t m n f g) (eG l v a t m n f g) = eRm l v a t (m + m') n f g := by unfold eRm; rw [n2, n3, sumF_congr (fun i hi => (zz i hi).2)]
      have et : eRt l v (tmax t a) t m' (eN l v a t m n f g) (eF l v a t m n f g) (eG l v a t m n f g) = eRt l v a t (m + m') n f g := by unfold eRt; rw [if_pos e2, if_pos e3]
      have es : eRs l v (tmax t a) t m' (eN l v a t m n f g) (eF l v a t m n f g) (eG l v a t m n f g) = eRs l v a t (m + m') n f g := by unfold eRs; rw [tmax_tmax, n2, n3, waitE_congr zz]
      rw [e1] at K1
      rw [e2, er, et, es, n2] at K2
      rw [e3, n3] at K3
      exact y_tt k l v b a 0 t m m' sa ha 0 sc n hc W (by decide) (by omega) MK x1 x2 y1 y2 z1 z2 t1 t2 _ _ _ _ _ _ _ _ _ _ _ _ _ _ _ _ _ _ _ _ (by decide) (by omega) K1 (fun q1 q2 q3 q4 u q5 q6 q7 => (K2 q1 q2 q3 q4 u q5 q6 q7).mono (fun _ _ q => q.congr (fun i hi => rfl) zz)) K3

theorem walk (k l v b : Int) (c : CellV) (t m m' : Int) (h0 : (Lit.int .i64 k).wf = true) (h1 : (Lit.int .i64 l).wf = true) (h2 : (Lit.int .i64 v).wf = true) (h3 : (Lit.int .i64 b).wf = true) {W : World} (hc : IsCell W c) (i0 : (Lit.int .i64 t).wf = true) (i1 : (Lit.int .i64 m).wf = true) (i2 : (Lit.int .i64 m').wf = true) :
    Calls Try.prog 7 #[.agg #[.int .i64 k, .int .i64 l, .int .i64 v, .int .i64 b], .agg #[.int .i64 c.a, .int .i64 c.n, .slice c.sa c.sn c.sc, .slice c.ha c.hn c.hc], .agg ([t, m, m'].map (Value.int .i64)).toArray] W fun e w' => e = .returned (.bool true) ∧ Below W.heap.size W w' := by
  obtain ⟨q1, q2⟩ := hc.len
  show Calls Try.prog 7 #[.agg #[.int .i64 k, .int .i64 l, .int .i64 v, .int .i64 b], .agg #[.int .i64 c.a, .int .i64 c.n, .slice c.sa c.sn c.sc, .slice c.ha c.hn c.hc], .agg #[.int .i64 t, .int .i64 m, .int .i64 m']] W fun e w' => e = .returned (.bool true) ∧ Below W.heap.size W w'
  obtain ⟨f, g, s1⟩ := hc.hs.at_
  have c1 := hc.hs.1
  have c2 := hc.hs.2.1
  clear hc
  obtain ⟨a, n, sa, ha, sn, sc, hn, hc, zs⟩ := c
  simp only at q1 q2 s1 c1 c2 ⊢
  by_cases few : sn ≤ 40 ∧ hn ≤ 40
  · by_cases q : MayE k l v b a n sn hn f g
    · have MK := fun u (hu : Below W.heap.size W u) => q.ryes (sa := sa) (ha := ha) (sc := sc) (hc := hc) u (s1.below hu)
      by_cases x : 1 ≤ m ∧ m ≤ 1048576
      · by_cases y : 1 ≤ m' ∧ m' ≤ 1048576
        · by_cases z : 1 ≤ m + m' ∧ m + m' ≤ 1048576
          · by_cases ht : 0 ≤ t ∧ t ≤ 1099511627776
            · obtain ⟨g1, g2, g3, rfl, rfl, g6⟩ := q
              exact go k l v b a t m m' sa ha sc hn hc f g (fun _ => 0) W g1 g2 g3 g6 s1 c1 c2 x.1 x.2 y.1 y.2 z.1 z.2 ht.1 ht.2
            · exact n5 k l v b a n t m m' sa ha sn sc hn hc W few.1 few.2 MK x.1 x.2 y.1 y.2 z.1 z.2 ht
          · exact n4 k l v b a n t m m' sa ha sn sc hn hc W few.1 few.2 MK x.1 x.2 y.1 y.2 z
        · exact n3 k l v b a n t m m' sa ha sn sc hn hc W few.1 few.2 MK x.1 x.2 y
      · exact n2 k l v b a n t m m' sa ha sn sc hn hc W few.1 few.2 MK x
    · exact n1 k l v b a n t m m' sa ha sn sc hn hc W few.1 few.2 (fun u hu => rMay_no k l v b a n sa ha sn sc hn hc u f g q q1 (by omega) (s1.below hu))
  · exact n0 k l v b a n t m m' sa ha sn sc hn hc W few q1 q2

theorem own : ownKnob Try.prog.godebug = none := by kernel_rfl
theorem laidOut : laidOutB Try.prog = true := by kernel_rfl
theorem contract (H : Type) (enc : TypeId × Value → H) (W : World) (base : Nat) (args : Array Value) (ds gs : List (DataW H)) (before : List MemPlace)
    (hval : ∀ (j : Nat) t v, Try.f7.params[j]? = some t → args[j]? = some v → Value.okWide Try.prog W .any base t v)
    (hW : DataW.Whole enc Try.prog Try.f7.params.toList Rows.exactPartsSpec.vars false W args.toList ds gs before) :
    Calls Try.prog 7 args W fun e W' => ∃ v, e = .returned v ∧ Rows.exactPartsSpec.post enc Try.prog Try.f7 false true false false W args v W' := by
  have hW' := hW
  obtain ⟨p, q, hA0, hV, rfl, hfz, hnd⟩ := hW
  have hA : DataW.TrodAll enc Try.prog W 0 (fun _ => true) true Try.f7.params.toList args.toList ds p := hA0
  rw [Try.params7] at hA hval
  obtain ⟨v0, vs0, d0, ds0, p0, q0, hargs, rfl, rfl, h0, r0⟩ := trodAll_cons hA
  obtain ⟨v1, vs1, d1, ds1, p1, q1, rfl, rfl, rfl, h1, r1⟩ := trodAll_cons r0
  obtain ⟨v2, vs2, d2, ds2, p2, q2, rfl, rfl, rfl, h2, r2⟩ := trodAll_cons r1
  obtain ⟨rfl, rfl, rfl⟩ := trodAll_nil r2
  obtain rfl : args = #[v0, v1, v2] := by cases args; simp_all
  obtain ⟨rfl, rfl⟩ := trodVars_none hV
  have k0 := h0
  have lt0 : ∀ x ∈ p0, x.block < W.heap.size := by obtain ⟨m, hm⟩ := k0; exact DataW.trod_lt m _ _ _ hm
  obtain ⟨p0_k, p0_l, p0_v, p0_b, rfl, wp0_k, wp0_l, wp0_v, wp0_b⟩ := open_pol (hval 0 23 v0 rfl rfl) h0
  have k1 := h1
  have lt1 : ∀ x ∈ p1, x.block < W.heap.size := by obtain ⟨m, hm⟩ := k1; exact DataW.trod_lt m _ _ _ hm
  obtain ⟨c1, rfl, w1⟩ := open_cell (hval 1 27 v1 rfl rfl) h1
  have k2 := h2
  have lt2 : ∀ x ∈ p2, x.block < W.heap.size := by obtain ⟨m, hm⟩ := k2; exact DataW.trod_lt m _ _ _ hm
  obtain ⟨l2, rfl, hl2, wl2⟩ := open_arr_int Try.underlying47 Try.underlying3 (by kernel_rfl) (by kernel_rfl) (hval 2 47 v2 rfl rfl) h2
  obtain ⟨x2_0, x2_1, x2_2, rfl⟩ : ∃ x2_0 x2_1 x2_2, l2 = [x2_0, x2_1, x2_2] := by
    match l2, hl2 with
    | [x2_0, x2_1, x2_2], _ => exact ⟨x2_0, x2_1, x2_2, rfl⟩
  clear hA0
  refine (walk p0_k p0_l p0_v p0_b c1 x2_0 x2_1 x2_2 wp0_k wp0_l wp0_v wp0_b w1 (wl2 x2_0 (by simp)) (wl2 x2_1 (by simp)) (wl2 x2_2 (by simp))).mono fun e W' ⟨he, bel⟩ => ?_
  subst he
  exact ⟨_, rfl, _, _, _, [], _, [], hW', trodAll_mk1 (shut_bool Try.underlying4 _), (trodAll_cons_mk (Below.trod laidOut (by kernel_rfl) (of_decide_eq_true (by kernel_rfl)) k0 bel lt0) (trodAll_cons_mk (Below.trod laidOut (by kernel_rfl) (of_decide_eq_true (by kernel_rfl)) k1 bel lt1) (trodAll_cons_mk (Below.trod laidOut (by kernel_rfl) (of_decide_eq_true (by kernel_rfl)) k2 bel lt2) trodAll_mk0))), rfl, bel.frame _, fun h => by cases h⟩

set_option maxRecDepth 100000 in
theorem lifted (os : Os) (started : os.Started) (H : Type) (enc : TypeId × Value → H) :
    ReturnsInHanded {} Try.checked os 7 .any (Rows.exactPartsSpec.pre6 enc Try.prog Try.f7 Rows.exactPartsRow.domain false) (Rows.exactPartsSpec.post enc Try.prog Try.f7 false true false false) := by
  refine returnsInHanded_of_change (C := Try.checked) own started (by kernel_rfl) Try.func7
    (ChangeSpec.witness6 (enc := enc) (C := Try.checked) false ⟨#[], #[.agg #[.int .i64 0, .int .i64 0, .int .i64 0, .int .i64 0], .agg #[.int .i64 0, .int .i64 0, .slice none 0 0, .slice none 0 0], .agg #[.int .i64 0, .int .i64 0, .int .i64 0]], []⟩ 8 (by kernel_rfl) (by kernel_rfl) (by kernel_rfl) (by kernel_rfl)) ?_
  intro W base args ds gs before hval hW _ _
  exact contract H enc W base args ds gs before hval hW

theorem over : Rows.exactPartsRow.holds Try.pinned (OpenSpec.ofChange Rows.exactPartsSpec) :=
  OpenClaim.holds_of_wide 7 Try.f7 rfl rfl rfl rfl rfl rfl rfl ⟨rfl, rfl, rfl, rfl, rfl⟩ rfl rfl rfl rfl rfl (by kernel_rfl) Try.func7 (by kernel_rfl)
    (of_decide_eq_true (by kernel_rfl)) (by unfold Func.isWrapper; first | (rw [if_pos (by decide +kernel)]; kernel_rfl) | (rw [if_neg (by decide +kernel)]; exact ⟨rfl, rfl⟩))
    (fun os started H enc _ => lifted os started H enc)
end Go.Proofs.Ytgdcgilhaedbmaa.exactParts
namespace Go.Proofs.Ytgdcgilhaedbmaa
theorem exactParts_proved : Rows.ExactPartsSaid := exactParts.over
end Go.Proofs.Ytgdcgilhaedbmaa

