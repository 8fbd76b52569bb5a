/- For every policy, every cell and every two numbers the law RingMay returns true: of a cell that may be comes one that may be; what is told is right, and no sooner. No condition. -/
import Derived.Test.YtbmjpfcnagodaaaRingMayW
namespace Go.Proofs.Ytbmjpfcnagodaaa.ringMay
open Go.ChangeShapes Go.WideShapes Go.ChangeAt Go.RowKit
set_option linter.unusedVariables false

/-- The sums of the cell that came. -/
def Sums (B : Nat) (F : Nat → Int) (da : Option Addr) (dn dc : Nat) (ea : Option Addr) (en ec : Nat) (u : World) : Prop := dn = B ∧ en = 0 ∧ SumsAt u da dn F
theorem told_of {k l v b sl a t m : Int} {sa ha : Option Addr} {sn sc hc : Nat} {f : Nat → Int} {u : World} (h : RP k l v b sl) (a1 : 0 ≤ a) (a2 : a ≤ 1099511627776) (hm : MaySums l b (a / sl) sn f) (hf : SumsAt u sa sn f) (t1 : 0 ≤ t) (t2 : t ≤ 1099511627776) (m1 : 1 ≤ m) (m2 : m ≤ 1048576) {al : Bool} (e : rAl l b sl a t m sn f = al) :
    Calls Try.prog 10 #[.agg #[.int .i64 k, .int .i64 l, .int .i64 v, .int .i64 b], .agg #[.int .i64 a, .int .i64 0, .slice sa sn sc, .slice ha 0 hc], .int .i64 t, .int .i64 m] u (Told al u) := by
  subst e
  refine (Ask_R h a1 a2 hm u hf t1 t2 m1 m2 (fun _ => 0) (fun _ => 0)).mono ?_
  rintro _ w' ⟨da, ea, dc, ec, rfl, _, _, hb⟩
  exact ⟨_, _, _, _, _, _, _, _, _, _, _, rfl, hb⟩
theorem go (k l v b sl a t m : Int) (sa ha : Option Addr) (sn sc hc : Nat) (f : Nat → Int) (W : World) (h : RP k l v b sl) (a1 : 0 ≤ a) (hm : MaySums l b (a / sl) sn f) (hf : SumsAt W sa sn f) (hn40 : sn ≤ 40) (t1 : 0 ≤ t) (t2 : t ≤ 549755813888) (a2 : a ≤ 549755813888) (m1 : 1 ≤ m) (m2 : m ≤ 1048576) :
    Calls Try.prog 4 #[.agg #[.int .i64 k, .int .i64 l, .int .i64 v, .int .i64 b], .agg #[.int .i64 a, .int .i64 0, .slice sa sn sc, .slice ha 0 hc], .agg #[.int .i64 t, .int .i64 m]] W fun e w' => e = .returned (.bool true) ∧ Below W.heap.size W w' := by
  obtain ⟨l1, l2, v1, v2, b1, b2, s1, s2, hv⟩ := h.bd
  have hT : (t < a ∧ tmax t a = a) ∨ (a ≤ t ∧ tmax t a = t) := by unfold tmax; split <;> omega
  have T0 : 0 ≤ tmax t a := by rcases hT with q | q <;> omega
  have T2 : tmax t a ≤ 549755813888 := by rcases hT with q | q <;> omega
  have M0 : 0 ≤ tmax t a / sl := Int.ediv_nonneg T0 (by omega)
  have hB : ((b.toNat : Nat) : Int) = b := by omega
  have mF := may_F (t := t) (m := m) h hm a1 (show 0 ≤ m by omega)
  have CF := fun {X : Int} (hX : tmax t a / sl ≤ X) => cnt_F (m := m) h hm a1 hX
  have nn := fun (X : Int) => cnt_nn (N := tmax t a / sl) (X := X) b1 mF.len (fun i hi => (mF.each i hi).1)
  have htt : ∀ x, tmax t a ≤ x → tmax x (tmax t a) = x := fun x hx => tmax_hi hx
  have hdiv : ∀ x, tmax t a ≤ x → tmax t a / sl ≤ x / sl := fun x hx => Int.ediv_le_ediv (by omega) hx
  have hgone : cntV b (tmax t a / sl) (tmax t a / sl + b) b.toNat (rF l b sl a t m sn f) = 0 := cnt_gone (Int.le_refl _)
  have WR := wait_le (C := fun q => cntV b (tmax t a / sl) q b.toNat (rF l b sl a t m sn f)) (most := 0) hv s1 s2 T0 b1 b2 (by show _ ≤ _; omega)
  have hrs : rRs l b sl a t m sn f = waitV (fun q => cntV b (tmax t a / sl) q b.toNat (rF l b sl a t m sn f)) sl (tmax t a / sl) b (tmax t a) 0 := rfl
  rw [← hrs] at WR
  obtain ⟨wr0, wr1, wr2, wr3⟩ := WR
  have hrm : rRm l b sl a t m sn f = l - cntV b (tmax t a / sl) (tmax t a / sl) b.toNat (rF l b sl a t m sn f) := rfl
  have hcl := cnt_le b1 mF (show 0 ≤ l by omega) (Int.le_refl (tmax t a / sl))
  have hc0 := nn (tmax t a / sl)
  have hF0 : rAl l b sl a t m sn f = false → rF l b sl a t m sn f = rF0 b sl a t sn f := fun e => by unfold rF; rw [if_neg (by rw [e]; simp)]
  have hnal : rAl l b sl a t m sn f = false → l < cntV b (tmax t a / sl) (tmax t a / sl) b.toNat (rF l b sl a t m sn f) + m := fun e => by
    have hq := hF0 e
    rw [hq]
    unfold rAl at e
    simpa using e
  have hrt : rAl l b sl a t m sn f = false → m ≤ l → rRt l b sl a t m sn f = waitV (fun q => cntV b (tmax t a / sl) q b.toNat (rF l b sl a t m sn f)) sl (tmax t a / sl) b (tmax t a) (l - m) := fun e hl => by
    unfold rRt; rw [if_neg (by rw [e]; simp), if_neg (by omega), hF0 e]
  have WT := fun (hl : m ≤ l) => wait_le (C := fun q => cntV b (tmax t a / sl) q b.toNat (rF l b sl a t m sn f)) (most := l - m) hv s1 s2 T0 b1 b2 (by show _ ≤ _; omega)
  have alN : ∀ x y : Int, tmax t a ≤ x → (rAl l b sl (tmax t a) x y b.toNat (rF l b sl a t m sn f) = true ↔ cntV b (tmax t a / sl) (x / sl) b.toNat (rF l b sl a t m sn f) + y ≤ l) := fun x y hx => by
    have := al_iff (t := x) (m := y) h mF
    rw [htt x hx] at this
    exact this
  have alB : ∀ (x y : Int) (q : Bool), tmax t a ≤ x → (cntV b (tmax t a / sl) (x / sl) b.toNat (rF l b sl a t m sn f) + y ≤ l ↔ q = true) → rAl l b sl (tmax t a) x y b.toNat (rF l b sl a t m sn f) = q := fun x y q hx hq => by
    have h1 := alN x y hx
    cases q
    · cases hr : rAl l b sl (tmax t a) x y b.toNat (rF l b sl a t m sn f)
      · rfl
      · have := h1.1 hr; exact absurd (hq.1 this) (by simp)
    · exact h1.2 (hq.2 rfl)
  refine main (Sums b.toNat (rF l b sl a t m sn f)) k l v b a 0 t m sa ha sn sc 0 hc W (tmax t a) 0 (rAl l b sl a t m sn f) (rRm l b sl a t m sn f) (rRt l b sl a t m sn f) (rRs l b sl a t m sn f) hn40 (by decide) (fun u hu => rMay_yes k l v b sl a sa ha sn sc hc f u h a1 (by omega) hm (hf.below hu)) t1 t2 a2 m1 m2
    (fun _ _ _ _ _ _ _ _ q hb => ⟨q.1, q.2.1, q.2.2.below hb⟩) ?_ ?_ hT T0 T2 ?_ (by omega) (by omega) l2 wr0 (by omega) ?_ (if 0 < rRs l b sl a t m sn f then cntV b (tmax t a / sl) ((tmax t a + rRs l b sl a t m sn f - 1) / sl) b.toNat (rF l b sl a t m sn f) else 1) ?_ ?_ ?_ ?_ ?_ ?_ ?_ ?_ (cntV b (tmax t a / sl) (tmax t a / sl) b.toNat (rF l b sl a t m sn f)) ?_ (by omega) hc0 hcl
  · intro u hu
    refine (Ask_R h a1 (by omega) hm u (hf.below hu) t1 (by omega) m1 m2 (fun _ => 0) (fun _ => 0)).mono ?_
    rintro _ w' ⟨da, ea, dc, ec, rfl, q1, _, hb⟩
    exact ⟨da, _, dc, ea, _, ec, rfl, ⟨rfl, rfl, q1⟩, hb⟩
  · rintro da dn dc ea en ec u ⟨rfl, rfl, hs⟩
    exact May_yes k l v b sl _ da ea _ dc ec _ u h T0 (by omega) mF hs
  · rintro hr da dn dc ea en ec u ⟨rfl, rfl, hs⟩
    refine told_of h T0 (by omega) mF hs T0 (by omega) (by omega) (by omega) (alB _ _ true (Int.le_refl _) ?_)
    simp; omega
  · rintro da dn dc ea en ec u ⟨rfl, rfl, hs⟩
    have := Total_yes k l v b sl (tmax t a) (tmax t a + rRs l b sl a t m sn f) da ea _ dc ec _ u h T0 (by omega) mF hs (by omega) (by omega)
    rw [htt _ (by omega), show cntV b (tmax t a / sl) ((tmax t a + rRs l b sl a t m sn f) / sl) b.toNat (rF l b sl a t m sn f) = 0 from Int.le_antisymm wr2 (nn _)] at this
    exact this
  · split
    · rename_i q; exact wr3 q
    · omega
  · rintro hs0 da dn dc ea en ec u ⟨rfl, rfl, hs⟩
    have := Total_yes k l v b sl (tmax t a) (tmax t a + rRs l b sl a t m sn f - 1) da ea _ dc ec _ u h T0 (by omega) mF hs (by omega) (by omega)
    rw [htt _ (by omega)] at this
    rw [if_pos hs0]
    exact this
  · rintro da dn dc ea en ec u ⟨rfl, rfl, hs⟩
    have hsl := h.s
    subst hsl
    exact Ends_yes k l v b (tmax t a) da ea _ dc ec _ u h T0 (by omega) mF hs
  · intro e; unfold rRt; rw [if_pos e]
  · intro e hl; unfold rRt; rw [if_neg (by rw [e]; simp), if_pos hl]
  · intro e hl
    obtain ⟨w0, w1, w2, w3⟩ := WT hl
    rw [hrt e hl]
    have := hnal e
    obtain ⟨_, _, iff⟩ := wait_nn (C := fun q => cntV b (tmax t a / sl) q b.toNat (rF l b sl a t m sn f)) (most := l - m) s1 s2 T0 b1 b2
    refine ⟨?_, by omega⟩
    rcases Int.lt_or_eq_of_le w0 with q | q
    · exact q
    · have := iff.1 q.symm; omega
  · rintro e hl da dn dc ea en ec u ⟨rfl, rfl, hs⟩
    obtain ⟨w0, w1, w2, w3⟩ := WT hl
    rw [hrt e hl]
    refine told_of h T0 (by omega) mF hs (by omega) (by omega) m1 m2 (alB _ _ true (by omega) ?_)
    simp; omega
  · rintro e hl da dn dc ea en ec u ⟨rfl, rfl, hs⟩
    obtain ⟨w0, w1, w2, w3⟩ := WT hl
    have hpos : 0 < waitV (fun q => cntV b (tmax t a / sl) q b.toNat (rF l b sl a t m sn f)) sl (tmax t a / sl) b (tmax t a) (l - m) := by
      obtain ⟨_, _, iff⟩ := wait_nn (C := fun q => cntV b (tmax t a / sl) q b.toNat (rF l b sl a t m sn f)) (most := l - m) s1 s2 T0 b1 b2
      have := hnal e
      rcases Int.lt_or_eq_of_le w0 with q | q
      · exact q
      · have := iff.1 q.symm; omega
    rw [hrt e hl]
    have w4 := w3 hpos
    refine told_of h T0 (by omega) mF hs (by omega) (by omega) m1 m2 (alB _ _ false (by omega) ?_)
    simp; omega
  · rintro da dn dc ea en ec u ⟨rfl, rfl, hs⟩
    have := Total_yes k l v b sl (tmax t a) (tmax t a) da ea _ dc ec _ u h T0 (by omega) mF hs T0 (by omega)
    rw [htt _ (Int.le_refl _)] at this
    exact this

theorem walk (k l v b : Int) (c : CellV) (t m : Int) (h0 : (Lit.int .i64 k).wf = true) (h1 : (Lit.int .i64 l).wf = true) (h2 : (Lit.int .i64 v).wf = true) (h3 : (Lit.int .i64 b).wf = true) {W : World} (hc : IsCell W c) (i0 : (Lit.int .i64 t).wf = true) (i1 : (Lit.int .i64 m).wf = true) :
    Calls Try.prog 4 #[.agg #[.int .i64 k, .int .i64 l, .int .i64 v, .int .i64 b], .agg #[.int .i64 c.a, .int .i64 c.n, .slice c.sa c.sn c.sc, .slice c.ha c.hn c.hc], .agg ([t, m].map (Value.int .i64)).toArray] W fun e w' => e = .returned (.bool true) ∧ Below W.heap.size W w' := by
  obtain ⟨q1, q2⟩ := hc.len
  show Calls Try.prog 4 #[.agg #[.int .i64 k, .int .i64 l, .int .i64 v, .int .i64 b], .agg #[.int .i64 c.a, .int .i64 c.n, .slice c.sa c.sn c.sc, .slice c.ha c.hn c.hc], .agg #[.int .i64 t, .int .i64 m]] W fun e w' => e = .returned (.bool true) ∧ Below W.heap.size W w'
  obtain ⟨s1, _⟩ := hc.ss.at_
  clear hc
  obtain ⟨a, n, sa, ha, sn, sc, hn, hc, zs⟩ := c
  simp only at q1 q2 s1 ⊢
  generalize (fun i => zs.getD i 0) = f at s1
  by_cases few : sn ≤ 40 ∧ hn ≤ 40
  · by_cases g : MayR k l v b a n sn hn f
    · by_cases ht : 0 ≤ t ∧ t ≤ 549755813888 ∧ a ≤ 549755813888
      · by_cases x : 1 ≤ m ∧ m ≤ 1048576
        · have rp := g.rp
          obtain ⟨g1, g2, g3, g4, rfl, rfl, g7⟩ := g
          exact go k l v b _ a t m sa ha sn sc hc f W rp g3 g7 s1 few.1 ht.1 ht.2.1 ht.2.2 x.1 x.2
        · exact n3 k l v b a n t m sa ha sn sc hn hc W few.1 few.2 (fun u hu => g.ryes u (s1.below hu)) ht.1 ht.2.1 ht.2.2 x
      · exact n2 k l v b a n t m sa ha sn sc hn hc W few.1 few.2 (fun u hu => g.ryes u (s1.below hu)) (by omega)
    · exact n1 k l v b a n t m sa ha sn sc hn hc W few.1 few.2 (fun u hu => rMay_no k l v b a n sa ha sn sc hn hc u f g q1 q2 (s1.below hu))
  · exact n0 k l v b a n t m sa ha sn sc hn hc W few q1 q2

theorem own : ownKnob Try.prog.godebug = none := by kernel_rfl
theorem laidOut : laidOutB Try.prog = true := by kernel_rfl
theorem contract (H : Type) (enc : TypeId × Value → H) (W : World) (base : Nat) (args : Array Value) (ds gs : List (DataW H)) (before : List MemPlace)
    (hval : ∀ (j : Nat) t v, Try.f4.params[j]? = some t → args[j]? = some v → Value.okWide Try.prog W .any base t v)
    (hW : DataW.Whole enc Try.prog Try.f4.params.toList Rows.ringMaySpec.vars false W args.toList ds gs before) :
    Calls Try.prog 4 args W fun e W' => ∃ v, e = .returned v ∧ Rows.ringMaySpec.post enc Try.prog Try.f4 false true false false W args v W' := by
  have hW' := hW
  obtain ⟨p, q, hA0, hV, rfl, hfz, hnd⟩ := hW
  have hA : DataW.TrodAll enc Try.prog W 0 (fun _ => true) true Try.f4.params.toList args.toList ds p := hA0
  rw [Try.params4] at hA hval
  obtain ⟨v0, vs0, d0, ds0, p0, q0, hargs, rfl, rfl, h0, r0⟩ := trodAll_cons hA
  obtain ⟨v1, vs1, d1, ds1, p1, q1, rfl, rfl, rfl, h1, r1⟩ := trodAll_cons r0
  obtain ⟨v2, vs2, d2, ds2, p2, q2, rfl, rfl, rfl, h2, r2⟩ := trodAll_cons r1
  obtain ⟨rfl, rfl, rfl⟩ := trodAll_nil r2
  obtain rfl : args = #[v0, v1, v2] := by cases args; simp_all
  obtain ⟨rfl, rfl⟩ := trodVars_none hV
  have k0 := h0
  have lt0 : ∀ x ∈ p0, x.block < W.heap.size := by obtain ⟨m, hm⟩ := k0; exact DataW.trod_lt m _ _ _ hm
  obtain ⟨p0_k, p0_l, p0_v, p0_b, rfl, wp0_k, wp0_l, wp0_v, wp0_b⟩ := open_pol (hval 0 23 v0 rfl rfl) h0
  have k1 := h1
  have lt1 : ∀ x ∈ p1, x.block < W.heap.size := by obtain ⟨m, hm⟩ := k1; exact DataW.trod_lt m _ _ _ hm
  obtain ⟨c1, rfl, w1⟩ := open_cell (hval 1 27 v1 rfl rfl) h1
  have k2 := h2
  have lt2 : ∀ x ∈ p2, x.block < W.heap.size := by obtain ⟨m, hm⟩ := k2; exact DataW.trod_lt m _ _ _ hm
  obtain ⟨l2, rfl, hl2, wl2⟩ := open_arr_int Try.underlying28 Try.underlying3 (by kernel_rfl) (by kernel_rfl) (hval 2 28 v2 rfl rfl) h2
  obtain ⟨x2_0, x2_1, rfl⟩ : ∃ x2_0 x2_1, l2 = [x2_0, x2_1] := by
    match l2, hl2 with
    | [x2_0, x2_1], _ => exact ⟨x2_0, x2_1, rfl⟩
  clear hA0
  refine (walk p0_k p0_l p0_v p0_b c1 x2_0 x2_1 wp0_k wp0_l wp0_v wp0_b w1 (wl2 x2_0 (by simp)) (wl2 x2_1 (by simp))).mono fun e W' ⟨he, bel⟩ => ?_
  subst he
  exact ⟨_, rfl, _, _, _, [], _, [], hW', trodAll_mk1 (shut_bool Try.underlying4 _), (trodAll_cons_mk (Below.trod laidOut (by kernel_rfl) (of_decide_eq_true (by kernel_rfl)) k0 bel lt0) (trodAll_cons_mk (Below.trod laidOut (by kernel_rfl) (of_decide_eq_true (by kernel_rfl)) k1 bel lt1) (trodAll_cons_mk (Below.trod laidOut (by kernel_rfl) (of_decide_eq_true (by kernel_rfl)) k2 bel lt2) trodAll_mk0))), rfl, bel.frame _, fun h => by cases h⟩

set_option maxRecDepth 100000 in
theorem lifted (os : Os) (started : os.Started) (H : Type) (enc : TypeId × Value → H) :
    ReturnsInHanded {} Try.checked os 4 .any (Rows.ringMaySpec.pre6 enc Try.prog Try.f4 Rows.ringMayRow.domain false) (Rows.ringMaySpec.post enc Try.prog Try.f4 false true false false) := by
  refine returnsInHanded_of_change (C := Try.checked) own started (by kernel_rfl) Try.func4
    (ChangeSpec.witness6 (enc := enc) (C := Try.checked) false ⟨#[], #[.agg #[.int .i64 0, .int .i64 0, .int .i64 0, .int .i64 0], .agg #[.int .i64 0, .int .i64 0, .slice none 0 0, .slice none 0 0], .agg #[.int .i64 0, .int .i64 0]], []⟩ 8 (by kernel_rfl) (by kernel_rfl) (by kernel_rfl) (by kernel_rfl)) ?_
  intro W base args ds gs before hval hW _ _
  exact contract H enc W base args ds gs before hval hW

theorem over : Rows.ringMayRow.holds Try.pinned (OpenSpec.ofChange Rows.ringMaySpec) :=
  OpenClaim.holds_of_wide 4 Try.f4 rfl rfl rfl rfl rfl rfl rfl ⟨rfl, rfl, rfl, rfl, rfl⟩ rfl rfl rfl rfl rfl (by kernel_rfl) Try.func4 (by kernel_rfl)
    (of_decide_eq_true (by kernel_rfl)) (by unfold Func.isWrapper; first | (rw [if_pos (by decide +kernel)]; kernel_rfl) | (rw [if_neg (by decide +kernel)]; exact ⟨rfl, rfl⟩))
    (fun os started H enc _ => lifted os started H enc)
end Go.Proofs.Ytbmjpfcnagodaaa.ringMay
namespace Go.Proofs.Ytbmjpfcnagodaaa
theorem ringMay_proved : Rows.RingMaySaid := ringMay.over
end Go.Proofs.Ytbmjpfcnagodaaa

