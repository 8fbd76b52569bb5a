/- For every policy, every cell and every three numbers the law RingParts returns true: two weights, one behind the other at one time, are both let in just where both together are at once, and leave the same cell. No condition. -/
import Derived.Test.YtbmjpfcnagodaaaRingPartsW
namespace Go.Proofs.Ytbmjpfcnagodaaa.ringParts
open Go.ChangeShapes Go.WideShapes Go.ChangeAt Go.RowKit
set_option linter.unusedVariables false

theorem put_congr {f g : Nat → Int} {B j : Nat} {m : Int} (e : ∀ i, i < B → f i = g i) (hj : j < B) (i : Nat) (hi : i < B) : putF f j (f j + m) i = putF g j (g j + m) i := by
  unfold putF
  split
  · rw [e j hj]
  · exact e i hi
theorem rF_yes {l b sl a t m : Int} {sn : Nat} {f : Nat → Int} (e : rAl l b sl a t m sn f = true) : rF l b sl a t m sn f = putF (rF0 b sl a t sn f) (tmax t a / sl % b).toNat (rF0 b sl a t sn f (tmax t a / sl % b).toNat + m) := if_pos e
theorem go (k l v b sl a t m m' : Int) (sa ha : Option Addr) (sn sc hc : Nat) (f g1 g2 : Nat → Int) (W : World) (h : RP k l v b sl) (a1 : 0 ≤ a) (a2 : a ≤ 1099511627776) (hm : MaySums l b (a / sl) sn f) (hf : SumsAt W sa sn f) (hn40 : sn ≤ 40) (x1 : 1 ≤ m) (x2 : m ≤ 1048576) (y1 : 1 ≤ m') (y2 : m' ≤ 1048576) (z1 : 1 ≤ m + m') (z2 : m + m' ≤ 1048576) (t1 : 0 ≤ t) (t2 : t ≤ 1099511627776) :
    Calls Try.prog 7 #[.agg #[.int .i64 k, .int .i64 l, .int .i64 v, .int .i64 b], .agg #[.int .i64 a, .int .i64 0, .slice sa sn sc, .slice ha 0 hc], .agg #[.int .i64 t, .int .i64 m, .int .i64 m']] W fun e w' => e = .returned (.bool true) ∧ Below W.heap.size W w' := by
  obtain ⟨l1, l2, v1, v2, b1, b2, s1, s2, hv⟩ := h.bd
  have hB : ((b.toNat : Nat) : Int) = b := by omega
  have T1 := tmax_bd (t := t) (a := a)
  have T2 : tmax t a ≤ 1099511627776 := by unfold tmax; split <;> omega
  have M0 : 0 ≤ tmax t a / sl := Int.ediv_nonneg (by omega) (by omega)
  have mF := may_F (t := t) (m := m) h hm a1 (show 0 ≤ m by omega)
  have MK := fun u (hu : Below W.heap.size W u) => rMay_yes k l v b sl a sa ha sn sc hc f u h a1 a2 hm (hf.below hu)
  have K1 := fun u (hu : Below W.heap.size W u) => Ask_R (t := t) (m := m) (ha := ha) (sc := sc) (hc := hc) h a1 a2 hm u (hf.below hu) t1 t2 x1 x2 g1 g2
  have K2 := fun a1' e1 c1 d1 u (hu : SumsAt u a1' b.toNat (rF l b sl a t m sn f)) (_ : HitsAt u e1 0 g1 g2) => Ask_R (t := t) (m := m') (ha := e1) (sc := c1) (hc := d1) h (show 0 ≤ tmax t a by omega) T2 mF u hu t1 t2 y1 y2 g1 g2
  have K3 := fun u (hu : Below W.heap.size W u) => Ask_R (t := t) (m := m + m') (ha := ha) (sc := sc) (hc := hc) h a1 a2 hm u (hf.below hu) t1 t2 z1 z2 g1 g2
  have i1 := al_iff (t := t) (m := m) h hm
  have i2 := al_iff (t := t) (m := m') h mF
  have i3 := al_iff (t := t) (m := m + m') h hm
  rw [tmax_tmax, cnt_F h hm a1 (Int.le_refl _)] at i2
  rw [tmax_tmax] at K2
  cases e1 : rAl l b sl a t m sn f with
  | false =>
    have n1 : ¬ cntV b (a / sl) (tmax t a / sl) sn f + m ≤ l := fun q => by rw [i1.2 q] at e1; cases e1
    have e3 : rAl l b sl a t (m + m') sn f = false := by
      cases q : rAl l b sl a t (m + m') sn f with
      | false => rfl
      | true => have := i3.1 q; omega
    rw [e1] at K1
    rw [e3] at K3
    exact y_f k l v b a 0 t m m' sa ha sn sc 0 hc W hn40 (by decide) MK x1 x2 y1 y2 z1 z2 t1 t2 _ _ _ _ _ _ _ _ _ _ _ _ _ g1 g2 _ g1 g2 _ g1 g2 _ _ _ _ _ _ _ _ _ _ K1 K2 K3
  | true =>
    rw [e1] at i2
    rw [if_pos ⟨rfl, by omega⟩] at i2
    cases e2 : rAl l b sl (tmax t a) t m' b.toNat (rF l b sl a t m sn f) with
    | false =>
      have e3 : rAl l b sl a t (m + m') sn f = false := by
        cases q : rAl l b sl a t (m + m') sn f with
        | false => rfl
        | true =>
          have := i3.1 q
          rw [i2.2 (by omega)] at e2
          cases e2
      rw [e1] at K1
      rw [e2] at K2
      rw [e3] at K3
      exact y_tf k l v b a 0 t m m' sa ha sn sc 0 hc W hn40 (by decide) MK x1 x2 y1 y2 z1 z2 t1 t2 _ _ _ _ _ _ _ _ _ _ _ _ _ g1 g2 _ g1 g2 _ g1 g2 _ _ _ _ _ _ _ _ _ K1 K2 K3
    | true =>
      have q2 := i2.1 e2
      have e3 : rAl l b sl a t (m + m') sn f = true := i3.2 (by omega)
      have p0 : 0 ≤ tmax t a / sl % b := Int.emod_nonneg _ (by omega)
      have p1 : tmax t a / sl % b < b := Int.emod_lt_of_pos _ (by omega)
      -- the second ask's cell is that of both at once
      have zF : ∀ i, i < b.toNat → rF l b sl (tmax t a) t m' b.toNat (rF l b sl a t m sn f) i = rF l b sl a t (m + m') sn f i := fun i hi => by
        have hs : ∀ i, i < b.toNat → rF0 b sl (tmax t a) t b.toNat (rF l b sl a t m sn f) i = rF l b sl a t m sn f i := fun i hi => by
          unfold rF0
          rw [tmax_tmax]
          exact turn_same b1 hB M0 mF i hi
        have q1 : rF l b sl (tmax t a) t m' b.toNat (rF l b sl a t m sn f) i = putF (rF l b sl a t m sn f) (tmax t a / sl % b).toNat (rF l b sl a t m sn f (tmax t a / sl % b).toNat + m') i := by
          rw [rF_yes e2, tmax_tmax]
          exact put_congr hs (by omega) i hi
        have q3 : rF l b sl a t m sn f = putF (rF0 b sl a t sn f) (tmax t a / sl % b).toNat (rF0 b sl a t sn f (tmax t a / sl % b).toNat + m) := by unfold rF; rw [if_pos e1]
        have q4 : rF l b sl a t (m + m') sn f = putF (rF0 b sl a t sn f) (tmax t a / sl % b).toNat (rF0 b sl a t sn f (tmax t a / sl % b).toNat + (m + m')) := by unfold rF; rw [if_pos e3]
        rw [q1, q3, q4]
        unfold putF
        split
        · rw [if_pos rfl]; omega
        · rfl
      have cF : ∀ X, cntV b (tmax t a / sl) X b.toNat (rF l b sl (tmax t a) t m' b.toNat (rF l b sl a t m sn f)) = cntV b (tmax t a / sl) X b.toNat (rF l b sl a t (m + m') sn f) := fun X => cnt_congr b1 hB zF
      have er : rRm l b sl (tmax t a) t m' b.toNat (rF l b sl a t m sn f) = rRm l b sl a t (m + m') sn f := by unfold rRm; rw [tmax_tmax, cF]
      have et : rRt l b sl (tmax t a) t m' b.toNat (rF l b sl a t m sn f) = rRt l b sl a t (m + m') sn f := by unfold rRt; rw [if_pos e2, if_pos e3]
      have es : rRs l b sl (tmax t a) t m' b.toNat (rF l b sl a t m sn f) = rRs l b sl a t (m + m') sn f := by unfold rRs; rw [tmax_tmax, funext cF]
      rw [e1] at K1
      rw [e2, er, et, es] at K2
      rw [e3] at K3
      exact y_tt k l v b a 0 t m m' sa ha sn sc 0 hc W hn40 (by decide) MK x1 x2 y1 y2 z1 z2 t1 t2 _ _ _ _ _ _ _ _ _ g1 g2 _ g1 g2 _ _ _ _ _ _ (by omega) (by decide) K1 (fun q1 q2 q3 q4 u q5 q6 => (K2 q1 q2 q3 q4 u q5 q6).mono (fun _ _ q => q.congr zF (fun i hi => absurd hi (by omega)))) K3

theorem walk (k l v b : Int) (c : CellV) (t m m' : Int) (h0 : (Lit.int .i64 k).wf = true) (h1 : (Lit.int .i64 l).wf = true) (h2 : (Lit.int .i64 v).wf = true) (h3 : (Lit.int .i64 b).wf = true) {W : World} (hc : IsCell W c) (i0 : (Lit.int .i64 t).wf = true) (i1 : (Lit.int .i64 m).wf = true) (i2 : (Lit.int .i64 m').wf = true) :
    Calls Try.prog 7 #[.agg #[.int .i64 k, .int .i64 l, .int .i64 v, .int .i64 b], .agg #[.int .i64 c.a, .int .i64 c.n, .slice c.sa c.sn c.sc, .slice c.ha c.hn c.hc], .agg ([t, m, m'].map (Value.int .i64)).toArray] W fun e w' => e = .returned (.bool true) ∧ Below W.heap.size W w' := by
  obtain ⟨q1, q2⟩ := hc.len
  show Calls Try.prog 7 #[.agg #[.int .i64 k, .int .i64 l, .int .i64 v, .int .i64 b], .agg #[.int .i64 c.a, .int .i64 c.n, .slice c.sa c.sn c.sc, .slice c.ha c.hn c.hc], .agg #[.int .i64 t, .int .i64 m, .int .i64 m']] W fun e w' => e = .returned (.bool true) ∧ Below W.heap.size W w'
  obtain ⟨s1, _⟩ := hc.ss.at_
  clear hc
  obtain ⟨a, n, sa, ha, sn, sc, hn, hc, zs⟩ := c
  simp only at q1 q2 s1 ⊢
  generalize (fun i => zs.getD i 0) = f at s1
  by_cases few : sn ≤ 40 ∧ hn ≤ 40
  · by_cases g : MayR k l v b a n sn hn f
    · have MK := fun u (hu : Below W.heap.size W u) => g.ryes (ha := ha) (sc := sc) (hc := hc) u (s1.below hu)
      by_cases x : 1 ≤ m ∧ m ≤ 1048576
      · by_cases y : 1 ≤ m' ∧ m' ≤ 1048576
        · by_cases z : 1 ≤ m + m' ∧ m + m' ≤ 1048576
          · by_cases ht : 0 ≤ t ∧ t ≤ 1099511627776
            · have rp := g.rp
              obtain ⟨g1, g2, g3, g4, rfl, rfl, g7⟩ := g
              exact go k l v b _ a t m m' sa ha sn sc hc f (fun _ => 0) (fun _ => 0) W rp g3 g4 g7 s1 few.1 x.1 x.2 y.1 y.2 z.1 z.2 ht.1 ht.2
            · exact n5 k l v b a n t m m' sa ha sn sc hn hc W few.1 few.2 MK x.1 x.2 y.1 y.2 z.1 z.2 ht
          · exact n4 k l v b a n t m m' sa ha sn sc hn hc W few.1 few.2 MK x.1 x.2 y.1 y.2 z
        · exact n3 k l v b a n t m m' sa ha sn sc hn hc W few.1 few.2 MK x.1 x.2 y
      · exact n2 k l v b a n t m m' sa ha sn sc hn hc W few.1 few.2 MK x
    · exact n1 k l v b a n t m m' sa ha sn sc hn hc W few.1 few.2 (fun u hu => rMay_no k l v b a n sa ha sn sc hn hc u f g q1 q2 (s1.below hu))
  · exact n0 k l v b a n t m m' sa ha sn sc hn hc W few q1 q2

theorem own : ownKnob Try.prog.godebug = none := by kernel_rfl
theorem laidOut : laidOutB Try.prog = true := by kernel_rfl
theorem contract (H : Type) (enc : TypeId × Value → H) (W : World) (base : Nat) (args : Array Value) (ds gs : List (DataW H)) (before : List MemPlace)
    (hval : ∀ (j : Nat) t v, Try.f7.params[j]? = some t → args[j]? = some v → Value.okWide Try.prog W .any base t v)
    (hW : DataW.Whole enc Try.prog Try.f7.params.toList Rows.ringPartsSpec.vars false W args.toList ds gs before) :
    Calls Try.prog 7 args W fun e W' => ∃ v, e = .returned v ∧ Rows.ringPartsSpec.post enc Try.prog Try.f7 false true false false W args v W' := by
  have hW' := hW
  obtain ⟨p, q, hA0, hV, rfl, hfz, hnd⟩ := hW
  have hA : DataW.TrodAll enc Try.prog W 0 (fun _ => true) true Try.f7.params.toList args.toList ds p := hA0
  rw [Try.params7] at hA hval
  obtain ⟨v0, vs0, d0, ds0, p0, q0, hargs, rfl, rfl, h0, r0⟩ := trodAll_cons hA
  obtain ⟨v1, vs1, d1, ds1, p1, q1, rfl, rfl, rfl, h1, r1⟩ := trodAll_cons r0
  obtain ⟨v2, vs2, d2, ds2, p2, q2, rfl, rfl, rfl, h2, r2⟩ := trodAll_cons r1
  obtain ⟨rfl, rfl, rfl⟩ := trodAll_nil r2
  obtain rfl : args = #[v0, v1, v2] := by cases args; simp_all
  obtain ⟨rfl, rfl⟩ := trodVars_none hV
  have k0 := h0
  have lt0 : ∀ x ∈ p0, x.block < W.heap.size := by obtain ⟨m, hm⟩ := k0; exact DataW.trod_lt m _ _ _ hm
  obtain ⟨p0_k, p0_l, p0_v, p0_b, rfl, wp0_k, wp0_l, wp0_v, wp0_b⟩ := open_pol (hval 0 23 v0 rfl rfl) h0
  have k1 := h1
  have lt1 : ∀ x ∈ p1, x.block < W.heap.size := by obtain ⟨m, hm⟩ := k1; exact DataW.trod_lt m _ _ _ hm
  obtain ⟨c1, rfl, w1⟩ := open_cell (hval 1 27 v1 rfl rfl) h1
  have k2 := h2
  have lt2 : ∀ x ∈ p2, x.block < W.heap.size := by obtain ⟨m, hm⟩ := k2; exact DataW.trod_lt m _ _ _ hm
  obtain ⟨l2, rfl, hl2, wl2⟩ := open_arr_int Try.underlying47 Try.underlying3 (by kernel_rfl) (by kernel_rfl) (hval 2 47 v2 rfl rfl) h2
  obtain ⟨x2_0, x2_1, x2_2, rfl⟩ : ∃ x2_0 x2_1 x2_2, l2 = [x2_0, x2_1, x2_2] := by
    match l2, hl2 with
    | [x2_0, x2_1, x2_2], _ => exact ⟨x2_0, x2_1, x2_2, rfl⟩
  clear hA0
  refine (walk p0_k p0_l p0_v p0_b c1 x2_0 x2_1 x2_2 wp0_k wp0_l wp0_v wp0_b w1 (wl2 x2_0 (by simp)) (wl2 x2_1 (by simp)) (wl2 x2_2 (by simp))).mono fun e W' ⟨he, bel⟩ => ?_
  subst he
  exact ⟨_, rfl, _, _, _, [], _, [], hW', trodAll_mk1 (shut_bool Try.underlying4 _), (trodAll_cons_mk (Below.trod laidOut (by kernel_rfl) (of_decide_eq_true (by kernel_rfl)) k0 bel lt0) (trodAll_cons_mk (Below.trod laidOut (by kernel_rfl) (of_decide_eq_true (by kernel_rfl)) k1 bel lt1) (trodAll_cons_mk (Below.trod laidOut (by kernel_rfl) (of_decide_eq_true (by kernel_rfl)) k2 bel lt2) trodAll_mk0))), rfl, bel.frame _, fun h => by cases h⟩

set_option maxRecDepth 100000 in
theorem lifted (os : Os) (started : os.Started) (H : Type) (enc : TypeId × Value → H) :
    ReturnsInHanded {} Try.checked os 7 .any (Rows.ringPartsSpec.pre6 enc Try.prog Try.f7 Rows.ringPartsRow.domain false) (Rows.ringPartsSpec.post enc Try.prog Try.f7 false true false false) := by
  refine returnsInHanded_of_change (C := Try.checked) own started (by kernel_rfl) Try.func7
    (ChangeSpec.witness6 (enc := enc) (C := Try.checked) false ⟨#[], #[.agg #[.int .i64 0, .int .i64 0, .int .i64 0, .int .i64 0], .agg #[.int .i64 0, .int .i64 0, .slice none 0 0, .slice none 0 0], .agg #[.int .i64 0, .int .i64 0, .int .i64 0]], []⟩ 8 (by kernel_rfl) (by kernel_rfl) (by kernel_rfl) (by kernel_rfl)) ?_
  intro W base args ds gs before hval hW _ _
  exact contract H enc W base args ds gs before hval hW

theorem over : Rows.ringPartsRow.holds Try.pinned (OpenSpec.ofChange Rows.ringPartsSpec) :=
  OpenClaim.holds_of_wide 7 Try.f7 rfl rfl rfl rfl rfl rfl rfl ⟨rfl, rfl, rfl, rfl, rfl⟩ rfl rfl rfl rfl rfl (by kernel_rfl) Try.func7 (by kernel_rfl)
    (of_decide_eq_true (by kernel_rfl)) (by unfold Func.isWrapper; first | (rw [if_pos (by decide +kernel)]; kernel_rfl) | (rw [if_neg (by decide +kernel)]; exact ⟨rfl, rfl⟩))
    (fun os started H enc _ => lifted os started H enc)
end Go.Proofs.Ytbmjpfcnagodaaa.ringParts
namespace Go.Proofs.Ytbmjpfcnagodaaa
theorem ringParts_proved : Rows.RingPartsSaid := ringParts.over
end Go.Proofs.Ytbmjpfcnagodaaa

