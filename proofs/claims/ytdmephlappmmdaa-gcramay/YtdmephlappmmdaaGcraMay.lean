/- For every policy, every cell and every two numbers the law GcraMay returns true: of a cell that may be comes one that may be; what is told is right, and no sooner. No condition. -/
import Derived.Test.YtdmephlappmmdaaGcraMayW
namespace Go.Proofs.Ytdmephlappmmdaa.gcraMay
open Go.ChangeShapes Go.WideShapes Go.ChangeAt Go.RowKit
set_option linter.unusedVariables false

/-- The cell that came has no lists. -/
def Nil (da : Option Addr) (dn dc : Nat) (ea : Option Addr) (en ec : Nat) (_ : World) : Prop := dn = 0 ∧ en = 0
theorem told_of {k l v b a n t m : Int} {sa ha : Option Addr} {sc hc : Nat} {u : World} (h : MayA k l v b a n t m 0 0) {al : Bool} (e : askAl l v a n t m = al) :
    Calls Try.prog 10 #[.agg #[.int .i64 k, .int .i64 l, .int .i64 v, .int .i64 b], .agg #[.int .i64 a, .int .i64 n, .slice sa 0 sc, .slice ha 0 hc], .int .i64 t, .int .i64 m] u (Told al u) := by
  subst e
  refine (Ask_yes k l v b a n t m sa ha 0 sc 0 hc u h).mono ?_
  rintro _ w' ⟨rfl, hb⟩
  exact ⟨_, _, _, _, _, _, _, _, _, _, _, rfl, hb⟩
theorem told_any {k l v b a n t m : Int} {sa ha : Option Addr} {sc hc : Nat} {u : World} (h : ¬ (1 ≤ m ∧ m ≤ 1048576)) :
    Calls Try.prog 10 #[.agg #[.int .i64 k, .int .i64 l, .int .i64 v, .int .i64 b], .agg #[.int .i64 a, .int .i64 n, .slice sa 0 sc, .slice ha 0 hc], .int .i64 t, .int .i64 m] u (Told false u) := by
  refine (Ask_no k l v b a n t m sa ha 0 sc 0 hc u (fun q => h q.2.2)).mono ?_
  rintro _ w' ⟨rfl, hb⟩
  exact ⟨_, _, _, _, _, _, _, _, _, _, _, rfl, hb⟩
theorem al_of {l v a n t m T : Int} (ht : tmax t a = T) {x : Int} (hx : levG l a n T = x) : askAl l v a n t m = decide (x + m * v ≤ l * v) := by unfold askAl; rw [ht, hx]
theorem up_le {n l v : Int} (hl : 1 ≤ l) (hv : 0 ≤ v) (hn : 0 ≤ n) (h : n ≤ l * v) : upS n l ≤ v := by
  rcases Int.lt_or_eq_of_le hn with h0 | h0
  · have h1 := up_least hl h0
    rcases Int.lt_or_le v (upS n l) with h2 | h2
    · exfalso
      have h3 : v * l ≤ (upS n l - 1) * l := Int.mul_le_mul_of_nonneg_right (by omega) (by omega)
      rw [Int.mul_comm v l] at h3
      omega
    · exact h2
  · rw [← h0, upS_0]; exact hv
theorem go (k l v b : Int) (a n t m : Int) (sa ha : Option Addr) (sc hc : Nat) (W : World) (hg : MayG k l v b a n 0 0) (t1 : 0 ≤ t) (t2 : t ≤ 549755813888) (a2 : a ≤ 549755813888) (m1 : 1 ≤ m) (m2 : m ≤ 1048576) :
    Calls Try.prog 4 #[.agg #[.int .i64 k, .int .i64 l, .int .i64 v, .int .i64 b], .agg #[.int .i64 a, .int .i64 n, .slice sa 0 sc, .slice ha 0 hc], .agg #[.int .i64 t, .int .i64 m]] W fun e w' => e = .returned (.bool true) ∧ Below W.heap.size W w' := by
  obtain ⟨l1, l2, v1, v2⟩ := hg.1.lv
  have a1 := hg.2.2.1.1
  have hT : (t < a ∧ tmax t a = a) ∨ (a ≤ t ∧ tmax t a = t) := by unfold tmax; split <;> omega
  have T0 : 0 ≤ tmax t a := by rcases hT with h | h <;> omega
  have T2 : tmax t a ≤ 549755813888 := by rcases hT with h | h <;> omega
  have g2 := hg.next t1 (by omega) (show 0 ≤ m by omega)
  have hH1 := g2.2.2.2.1
  have hH2 := g2.2.2.2.2.1
  have hm0 := Int.mul_nonneg (show 0 ≤ m by omega) (show 0 ≤ v by omega)
  have hrb := rem_bd v1 hH1 hH2
  have hrs0 := up_nn l1 hH1
  have hrs1 := up_le l1 (show 0 ≤ v by omega) hH1 hH2
  have htt : ∀ x, tmax t a ≤ x → tmax x (tmax t a) = x := fun x hx => tmax_hi hx
  have hrm : askRm l v a n t m = (l * v - askHas l v a n t m) / v := rfl
  have hrs : askRs l v a n t m = upS (askHas l v a n t m) l := rfl
  have hal : askAl l v a n t m = false → askHas l v a n t m = levG l a n (tmax t a) ∧ l * v < levG l a n (tmax t a) + m * v := fun h => by
    have : ¬ levG l a n (tmax t a) + m * v ≤ l * v := by unfold askAl at h; simpa using h
    exact ⟨if_neg this, by omega⟩
  have hre : askAl l v a n t m = false → m ≤ l → askRt l v a n t m = upS (askHas l v a n t m + m * v - l * v) l ∧ 1 ≤ upS (askHas l v a n t m + m * v - l * v) l ∧ upS (askHas l v a n t m + m * v - l * v) l ≤ v := fun h hm => by
    obtain ⟨e1, e2⟩ := hal h
    have hmv : m * v ≤ l * v := Int.mul_le_mul_of_nonneg_right hm (by omega)
    refine ⟨?_, up_pos l1 (by omega), up_le l1 (by omega) (by omega) (by omega)⟩
    unfold askRt; rw [if_neg (by omega), if_neg (by omega), e1]
  have hmv : m ≤ l → m * v ≤ l * v := fun h => Int.mul_le_mul_of_nonneg_right h (by omega)
  have hlev : levG l (tmax t a) (askHas l v a n t m) (tmax t a) = askHas l v a n t m := levG_at _ _ _ hH1
  refine main Nil k l v b a n t m sa ha 0 sc 0 hc W (tmax t a) (askHas l v a n t m) (askAl l v a n t m) (askRm l v a n t m) (askRt l v a n t m) (askRs l v a n t m) (by decide) (by decide) (fun u _ => rMay_yes k l v b a n sa ha 0 sc 0 hc u hg) t1 t2 a2 m1 m2
    (fun _ _ _ _ _ _ _ _ h _ => h) ?_ ?_ hT T0 T2 ?_ (by omega) (by omega) l2 (by omega) (by omega) ?_ (if 0 < askHas l v a n t m then levG l (tmax t a) (askHas l v a n t m) (tmax t a + upS (askHas l v a n t m) l - 1) else 1) ?_ ?_ ?_ ?_ ?_ ?_ ?_ ?_ (if askRm l v a n t m < 1048576 then false else askAl l v (tmax t a) (askHas l v a n t m) (tmax t a) (askRm l v a n t m + 1)) ?_ (fun h => if_pos h)
  · intro u _
    refine (Ask_yes k l v b a n t m sa ha 0 sc 0 hc u ⟨hg, ⟨t1, by omega⟩, ⟨m1, m2⟩⟩).mono ?_
    rintro _ w' ⟨rfl, hb⟩
    exact ⟨none, 0, 0, none, 0, 0, rfl, ⟨rfl, rfl⟩, hb⟩
  · rintro da dn dc ea en ec u ⟨rfl, rfl⟩
    exact May_yes k l v b _ _ da ea 0 dc 0 ec u g2
  · rintro hr da dn dc ea en ec u ⟨rfl, rfl⟩
    refine told_of ⟨g2, ⟨T0, by omega⟩, ⟨by omega, by omega⟩⟩ ?_
    rw [al_of (htt _ (Int.le_refl _)) hlev, hrm]
    have := rem_enough (M := l * v) (H := askHas l v a n t m) v1
    simp; omega
  · rintro da dn dc ea en ec u ⟨rfl, rfl⟩
    have := Level_yes k l v b (tmax t a) (askHas l v a n t m) (tmax t a + askRs l v a n t m) da ea 0 dc 0 ec u g2 (by omega) (by omega)
    rw [htt _ (by omega), lev_end l1 (by omega)] at this
    exact this
  · split
    · rename_i h; exact lev_ahead l1 h
    · omega
  · rintro hs da dn dc ea en ec u ⟨rfl, rfl⟩
    have hz : 0 < askHas l v a n t m := by
      rcases Int.lt_or_eq_of_le hH1 with h | h
      · exact h
      · rw [hrs, ← h, upS_0] at hs; omega
    have := Level_yes k l v b (tmax t a) (askHas l v a n t m) (tmax t a + askRs l v a n t m - 1) da ea 0 dc 0 ec u g2 (by omega) (by omega)
    rw [htt _ (by omega)] at this
    rw [if_pos hz]
    exact this
  · rintro da dn dc ea en ec u ⟨rfl, rfl⟩
    exact Ends_yes k l v b (tmax t a) (askHas l v a n t m) da ea 0 dc 0 ec u g2
  · intro h
    have : levG l a n (tmax t a) + m * v ≤ l * v := by unfold askAl at h; simpa using h
    exact if_pos this
  · intro h hm
    obtain ⟨e1, e2⟩ := hal h
    unfold askRt; rw [if_neg (by omega), if_pos hm]
  · intro h hm
    obtain ⟨e1, e2, e3⟩ := hre h hm
    rw [e1]; omega
  · rintro h hm da dn dc ea en ec u ⟨rfl, rfl⟩
    obtain ⟨e1, e2, e3⟩ := hre h hm
    rw [e1]
    refine told_of ⟨g2, ⟨by omega, by omega⟩, ⟨m1, m2⟩⟩ ?_
    rw [al_of (htt _ (by omega)) rfl]
    have := retry_then (T := tmax t a) (R := askHas l v a n t m) (q := m * v) (v := v) l1 (hmv hm)
    simpa using this
  · rintro h hm da dn dc ea en ec u ⟨rfl, rfl⟩
    obtain ⟨e1, e2, e3⟩ := hre h hm
    obtain ⟨h1, h2⟩ := hal h
    rw [e1]
    refine told_of ⟨g2, ⟨by omega, by omega⟩, ⟨m1, m2⟩⟩ ?_
    rw [al_of (htt _ (by omega)) rfl]
    have := retry_ahead (T := tmax t a) (R := askHas l v a n t m) (q := m * v) (v := v) l1 (hmv hm) (by omega)
    simpa using this
  · rintro da dn dc ea en ec u ⟨rfl, rfl⟩
    split
    · rename_i h
      refine told_of ⟨g2, ⟨T0, by omega⟩, ⟨by omega, by omega⟩⟩ ?_
      rw [al_of (htt _ (Int.le_refl _)) hlev, hrm]
      have := rem_most (M := l * v) (H := askHas l v a n t m) v1
      simp; omega
    · rename_i h
      have hq : ¬ (1 ≤ askRm l v a n t m + 1 ∧ askRm l v a n t m + 1 ≤ 1048576) := by omega
      have e : askAl l v (tmax t a) (askHas l v a n t m) (tmax t a) (askRm l v a n t m + 1) = false := by
        rw [al_of (htt _ (Int.le_refl _)) hlev, hrm]
        have := rem_most (M := l * v) (H := askHas l v a n t m) v1
        simp; omega
      rw [e]
      exact told_any hq

theorem walk (k l v b : Int) (c : CellV) (t m : Int) (h0 : (Lit.int .i64 k).wf = true) (h1 : (Lit.int .i64 l).wf = true) (h2 : (Lit.int .i64 v).wf = true) (h3 : (Lit.int .i64 b).wf = true) {W : World} (hc : IsCell W c) (i0 : (Lit.int .i64 t).wf = true) (i1 : (Lit.int .i64 m).wf = true) :
    Calls Try.prog 4 #[.agg #[.int .i64 k, .int .i64 l, .int .i64 v, .int .i64 b], .agg #[.int .i64 c.a, .int .i64 c.n, .slice c.sa c.sn c.sc, .slice c.ha c.hn c.hc], .agg ([t, m].map (Value.int .i64)).toArray] W fun e w' => e = .returned (.bool true) ∧ Below W.heap.size W w' := by
  obtain ⟨q1, q2⟩ := hc.len
  show Calls Try.prog 4 #[.agg #[.int .i64 k, .int .i64 l, .int .i64 v, .int .i64 b], .agg #[.int .i64 c.a, .int .i64 c.n, .slice c.sa c.sn c.sc, .slice c.ha c.hn c.hc], .agg #[.int .i64 t, .int .i64 m]] W fun e w' => e = .returned (.bool true) ∧ Below W.heap.size W w'
  clear hc
  obtain ⟨a, n, sa, ha, sn, sc, hn, hc, zs⟩ := c
  simp only at q1 q2 ⊢
  by_cases f : sn ≤ 40 ∧ hn ≤ 40
  · by_cases g : MayG k l v b a n sn hn
    · by_cases ht : 0 ≤ t ∧ t ≤ 549755813888 ∧ a ≤ 549755813888
      · obtain ⟨rfl, rfl⟩ : sn = 0 ∧ hn = 0 := g.2.2.2.2.2
        by_cases x : 1 ≤ m ∧ m ≤ 1048576
        · exact go k l v b a n t m sa ha sc hc W g ht.1 ht.2.1 ht.2.2 x.1 x.2
        · exact n3 k l v b a n t m sa ha 0 sc 0 hc W f.1 f.2 (fun u _ => rMay_yes k l v b a n sa ha 0 sc 0 hc u g) ht.1 ht.2.1 ht.2.2 x
      · exact n2 k l v b a n t m sa ha sn sc hn hc W f.1 f.2 (fun u _ => rMay_yes k l v b a n sa ha sn sc hn hc u g) (by omega)
    · exact n1 k l v b a n t m sa ha sn sc hn hc W f.1 f.2 (fun u _ => rMay_no k l v b a n sa ha sn sc hn hc u g)
  · exact n0 k l v b a n t m sa ha sn sc hn hc W f q1 q2

theorem own : ownKnob Try.prog.godebug = none := by kernel_rfl
theorem laidOut : laidOutB Try.prog = true := by kernel_rfl
theorem contract (H : Type) (enc : TypeId × Value → H) (W : World) (base : Nat) (args : Array Value) (ds gs : List (DataW H)) (before : List MemPlace)
    (hval : ∀ (j : Nat) t v, Try.f4.params[j]? = some t → args[j]? = some v → Value.okWide Try.prog W .any base t v)
    (hW : DataW.Whole enc Try.prog Try.f4.params.toList Rows.gcraMaySpec.vars false W args.toList ds gs before) :
    Calls Try.prog 4 args W fun e W' => ∃ v, e = .returned v ∧ Rows.gcraMaySpec.post enc Try.prog Try.f4 false true false false W args v W' := by
  have hW' := hW
  obtain ⟨p, q, hA0, hV, rfl, hfz, hnd⟩ := hW
  have hA : DataW.TrodAll enc Try.prog W 0 (fun _ => true) true Try.f4.params.toList args.toList ds p := hA0
  rw [Try.params4] at hA hval
  obtain ⟨v0, vs0, d0, ds0, p0, q0, hargs, rfl, rfl, h0, r0⟩ := trodAll_cons hA
  obtain ⟨v1, vs1, d1, ds1, p1, q1, rfl, rfl, rfl, h1, r1⟩ := trodAll_cons r0
  obtain ⟨v2, vs2, d2, ds2, p2, q2, rfl, rfl, rfl, h2, r2⟩ := trodAll_cons r1
  obtain ⟨rfl, rfl, rfl⟩ := trodAll_nil r2
  obtain rfl : args = #[v0, v1, v2] := by cases args; simp_all
  obtain ⟨rfl, rfl⟩ := trodVars_none hV
  have k0 := h0
  have lt0 : ∀ x ∈ p0, x.block < W.heap.size := by obtain ⟨m, hm⟩ := k0; exact DataW.trod_lt m _ _ _ hm
  obtain ⟨p0_k, p0_l, p0_v, p0_b, rfl, wp0_k, wp0_l, wp0_v, wp0_b⟩ := open_pol (hval 0 23 v0 rfl rfl) h0
  have k1 := h1
  have lt1 : ∀ x ∈ p1, x.block < W.heap.size := by obtain ⟨m, hm⟩ := k1; exact DataW.trod_lt m _ _ _ hm
  obtain ⟨c1, rfl, w1⟩ := open_cell (hval 1 27 v1 rfl rfl) h1
  have k2 := h2
  have lt2 : ∀ x ∈ p2, x.block < W.heap.size := by obtain ⟨m, hm⟩ := k2; exact DataW.trod_lt m _ _ _ hm
  obtain ⟨l2, rfl, hl2, wl2⟩ := open_arr_int Try.underlying28 Try.underlying3 (by kernel_rfl) (by kernel_rfl) (hval 2 28 v2 rfl rfl) h2
  obtain ⟨x2_0, x2_1, rfl⟩ : ∃ x2_0 x2_1, l2 = [x2_0, x2_1] := by
    match l2, hl2 with
    | [x2_0, x2_1], _ => exact ⟨x2_0, x2_1, rfl⟩
  clear hA0
  refine (walk p0_k p0_l p0_v p0_b c1 x2_0 x2_1 wp0_k wp0_l wp0_v wp0_b w1 (wl2 x2_0 (by simp)) (wl2 x2_1 (by simp))).mono fun e W' ⟨he, bel⟩ => ?_
  subst he
  exact ⟨_, rfl, _, _, _, [], _, [], hW', trodAll_mk1 (shut_bool Try.underlying4 _), (trodAll_cons_mk (Below.trod laidOut (by kernel_rfl) (of_decide_eq_true (by kernel_rfl)) k0 bel lt0) (trodAll_cons_mk (Below.trod laidOut (by kernel_rfl) (of_decide_eq_true (by kernel_rfl)) k1 bel lt1) (trodAll_cons_mk (Below.trod laidOut (by kernel_rfl) (of_decide_eq_true (by kernel_rfl)) k2 bel lt2) trodAll_mk0))), rfl, bel.frame _, fun h => by cases h⟩

set_option maxRecDepth 100000 in
theorem lifted (os : Os) (started : os.Started) (H : Type) (enc : TypeId × Value → H) :
    ReturnsInHanded {} Try.checked os 4 .any (Rows.gcraMaySpec.pre6 enc Try.prog Try.f4 Rows.gcraMayRow.domain false) (Rows.gcraMaySpec.post enc Try.prog Try.f4 false true false false) := by
  refine returnsInHanded_of_change (C := Try.checked) own started (by kernel_rfl) Try.func4
    (ChangeSpec.witness6 (enc := enc) (C := Try.checked) false ⟨#[], #[.agg #[.int .i64 0, .int .i64 0, .int .i64 0, .int .i64 0], .agg #[.int .i64 0, .int .i64 0, .slice none 0 0, .slice none 0 0], .agg #[.int .i64 0, .int .i64 0]], []⟩ 8 (by kernel_rfl) (by kernel_rfl) (by kernel_rfl) (by kernel_rfl)) ?_
  intro W base args ds gs before hval hW _ _
  exact contract H enc W base args ds gs before hval hW

theorem over : Rows.gcraMayRow.holds Try.pinned (OpenSpec.ofChange Rows.gcraMaySpec) :=
  OpenClaim.holds_of_wide 4 Try.f4 rfl rfl rfl rfl rfl rfl rfl ⟨rfl, rfl, rfl, rfl, rfl⟩ rfl rfl rfl rfl rfl (by kernel_rfl) Try.func4 (by kernel_rfl)
    (of_decide_eq_true (by kernel_rfl)) (by unfold Func.isWrapper; first | (rw [if_pos (by decide +kernel)]; kernel_rfl) | (rw [if_neg (by decide +kernel)]; exact ⟨rfl, rfl⟩))
    (fun os started H enc _ => lifted os started H enc)
end Go.Proofs.Ytdmephlappmmdaa.gcraMay
namespace Go.Proofs.Ytdmephlappmmdaa
theorem gcraMay_proved : Rows.GcraMaySaid := gcraMay.over
end Go.Proofs.Ytdmephlappmmdaa

