/- For every policy, every cell and every two numbers the law ExactAsks returns true: Ask, May, Total and Ends tell what the document's own do. No condition. -/
import Derived.Test.YtgdcgilhaedbmaaExactAsksW
namespace Go.Proofs.Ytgdcgilhaedbmaa.exactAsks
open Go.ChangeShapes Go.WideShapes Go.ChangeAt Go.RowKit
set_option linter.unusedVariables false

section
variable {k l v b a n : Int} {sa ha : Option Addr} {sn sc hn hc : Nat} {f g1 g2 : Nat → Int} {W : World}
theorem itself {P : Nat} {args : Array Value} {u : World} (hf : SumsAt u sa sn f) (hh : HitsAt u ha hn g1 g2) (h : Calls Try.prog P args u fun e w' => e = .returned (.tuple #[.agg #[.int .i64 a, .int .i64 n, .slice sa sn sc, .slice ha hn hc], .agg #[.bool false, .int .i64 0, .int .i64 0, .int .i64 0]]) ∧ Below u.heap.size u w') :
    Calls Try.prog P args u (Tells a n sn f hn g1 g2 false 0 0 0 u) := h.mono (fun _ _ ⟨he, hb⟩ => ⟨sa, ha, sc, hc, he, hf.below hb, hh.below hb, hb⟩)
theorem may_e (hh : HitsAt W ha hn g1 g2) (q1 : sn ≤ maxLen) (q2 : hn ≤ 40) : ∃ mr : Bool, (∀ u, Below W.heap.size W u → Calls Try.prog 13 #[.agg #[.int .i64 k, .int .i64 l, .int .i64 v, .int .i64 b], .agg #[.int .i64 a, .int .i64 n, .slice sa sn sc, .slice ha hn hc]] u fun e w' => e = .returned (.bool mr) ∧ Below u.heap.size u w') ∧ (∀ u, Below W.heap.size W u → Calls Try.prog 14 #[.agg #[.int .i64 k, .int .i64 l, .int .i64 v, .int .i64 b], .agg #[.int .i64 a, .int .i64 n, .slice sa sn sc, .slice ha hn hc]] u fun e w' => e = .returned (.bool mr) ∧ Below u.heap.size u w') := by
  by_cases h : MayE k l v b a n sn hn g1 g2
  · exact ⟨true, fun u hu => h.yes u (hh.below hu), fun u hu => h.ryes u (hh.below hu)⟩
  · exact ⟨false, fun u hu => May_no k l v b a n sa ha sn sc hn hc u g1 g2 h q1 (by omega) (hh.below hu), fun u hu => rMay_no k l v b a n sa ha sn sc hn hc u g1 g2 h q1 (by omega) (hh.below hu)⟩
theorem tot_e (t : Int) (hh : HitsAt W ha hn g1 g2) (q1 : sn ≤ maxLen) (q2 : hn ≤ 40) (c1 : hn ≤ hc) (c2 : hc ≤ maxLen) : ∃ lr : Int, (∀ u, Below W.heap.size W u → Calls Try.prog 15 #[.agg #[.int .i64 k, .int .i64 l, .int .i64 v, .int .i64 b], .agg #[.int .i64 a, .int .i64 n, .slice sa sn sc, .slice ha hn hc], .int .i64 t] u fun e w' => e = .returned (.int .i64 lr) ∧ Below u.heap.size u w') ∧ (∀ u, Below W.heap.size W u → Calls Try.prog 16 #[.agg #[.int .i64 k, .int .i64 l, .int .i64 v, .int .i64 b], .agg #[.int .i64 a, .int .i64 n, .slice sa sn sc, .slice ha hn hc], .int .i64 t] u fun e w' => e = .returned (.int .i64 lr) ∧ Below u.heap.size u w') := by
  by_cases h : MayE k l v b a n sn hn g1 g2
  · by_cases ht : 0 ≤ t ∧ t ≤ 1099511627776
    · obtain ⟨h1, h2, h3, rfl, rfl, h6⟩ := h
      exact ⟨_, fun u hu => Total_T k l v b a sa ha sc hn hc g1 g2 t _ u h1 h2 h3 h6 (hh.below hu) c1 c2 ht.1 ht.2 rfl, fun u hu => rTotal_T k l v b a sa ha sc hn hc g1 g2 t _ u h1 h2 h3 h6 (hh.below hu) c1 c2 ht.1 ht.2 rfl⟩
    · exact ⟨0, fun u hu => Total_t k l v b a n sa ha sn sc hn hc g1 g2 t u h ht q1 (by omega) (hh.below hu), fun u hu => rTotal_t k l v b a n sa ha sn sc hn hc g1 g2 t u h ht q1 (by omega) (hh.below hu)⟩
  · exact ⟨0, fun u hu => Total_no k l v b a n sa ha sn sc hn hc g1 g2 t u h q1 (by omega) (hh.below hu), fun u hu => rTotal_no k l v b a n sa ha sn sc hn hc g1 g2 t u h q1 (by omega) (hh.below hu)⟩
theorem end_e (hh : HitsAt W ha hn g1 g2) (q1 : sn ≤ maxLen) (q2 : hn ≤ 40) : ∃ er : Int, (∀ u, Below W.heap.size W u → Calls Try.prog 17 #[.agg #[.int .i64 k, .int .i64 l, .int .i64 v, .int .i64 b], .agg #[.int .i64 a, .int .i64 n, .slice sa sn sc, .slice ha hn hc]] u fun e w' => e = .returned (.int .i64 er) ∧ Below u.heap.size u w') ∧ (∀ u, Below W.heap.size W u → Calls Try.prog 18 #[.agg #[.int .i64 k, .int .i64 l, .int .i64 v, .int .i64 b], .agg #[.int .i64 a, .int .i64 n, .slice sa sn sc, .slice ha hn hc]] u fun e w' => e = .returned (.int .i64 er) ∧ Below u.heap.size u w') := by
  by_cases h : MayE k l v b a n sn hn g1 g2
  · obtain ⟨h1, h2, h3, rfl, rfl, h6⟩ := h
    exact ⟨_, fun u hu => Ends_yes k l v b a sa ha sc hn hc g1 g2 u h1 h2 h3 h6 (hh.below hu), fun u hu => rEnds_yes k l v b a sa ha sc hn hc g1 g2 u h1 h2 h3 h6 (hh.below hu)⟩
  · exact ⟨0, fun u hu => Ends_no k l v b a n sa ha sn sc hn hc g1 g2 u h q1 (by omega) (hh.below hu), fun u hu => rEnds_no k l v b a n sa ha sn sc hn hc g1 g2 u h q1 (by omega) (hh.below hu)⟩
/-- Both asks tell the same. -/
theorem ask_e (t m : Int) (hf : SumsAt W sa sn f) (hh : HitsAt W ha hn g1 g2) (q1 : sn ≤ 40) (q2 : hn ≤ 40) (c1 : hn ≤ hc) (c2 : hc ≤ maxLen) : ∃ (T H : Int) (xn : Nat) (f' : Nat → Int) (yn : Nat) (g1' g2' : Nat → Int) (al : Bool) (rm rt rs : Int), xn ≤ 40 ∧ yn ≤ 40 ∧
    (∀ u, Below W.heap.size W u → Calls Try.prog 10 #[.agg #[.int .i64 k, .int .i64 l, .int .i64 v, .int .i64 b], .agg #[.int .i64 a, .int .i64 n, .slice sa sn sc, .slice ha hn hc], .int .i64 t, .int .i64 m] u (Tells T H xn f' yn g1' g2' al rm rt rs u)) ∧ (∀ u, Below W.heap.size W u → Calls Try.prog 11 #[.agg #[.int .i64 k, .int .i64 l, .int .i64 v, .int .i64 b], .agg #[.int .i64 a, .int .i64 n, .slice sa sn sc, .slice ha hn hc], .int .i64 t, .int .i64 m] u (Tells T H xn f' yn g1' g2' al rm rt rs u)) := by
  have m1 : sn ≤ maxLen := by unfold maxLen; omega
  by_cases h : MayE k l v b a n sn hn g1 g2
  · by_cases ht : 0 ≤ t ∧ t ≤ 1099511627776
    · by_cases hw : 1 ≤ m ∧ m ≤ 1048576
      · obtain ⟨h1, h2, h3, rfl, rfl, h6⟩ := h
        obtain ⟨l1, l2, v1, v2⟩ := h1.bd
        have hl := (may_F (t := t) (m := m) h6 hw.1 h2 v1).len
        exact ⟨_, _, _, fun _ => 0, _, _, _, _, _, _, _, (by omega : 0 ≤ 40), (by omega), fun u hu => Ask_E h1 h2 h3 h6 u (hh.below hu) c1 c2 ht.1 ht.2 hw.1 hw.2 _, fun u hu => rAsk_E h1 h2 h3 h6 u (hh.below hu) c1 c2 ht.1 ht.2 hw.1 hw.2 _⟩
      · exact ⟨_, _, _, _, _, _, _, _, _, _, _, q1, q2, fun u hu => itself (hf.below hu) (hh.below hu) (Ask_n2 k l v b a n sa ha sn sc hn hc g1 g2 t m u h ht.1 ht.2 hw m1 (by omega) (hh.below hu)), fun u hu => itself (hf.below hu) (hh.below hu) (rAsk_n2 k l v b a n sa ha sn sc hn hc g1 g2 t m u h ht.1 ht.2 hw m1 (by omega) (hh.below hu))⟩
    · exact ⟨_, _, _, _, _, _, _, _, _, _, _, q1, q2, fun u hu => itself (hf.below hu) (hh.below hu) (Ask_n1 k l v b a n sa ha sn sc hn hc g1 g2 t m u h ht m1 (by omega) (hh.below hu)), fun u hu => itself (hf.below hu) (hh.below hu) (rAsk_n1 k l v b a n sa ha sn sc hn hc g1 g2 t m u h ht m1 (by omega) (hh.below hu))⟩
  · exact ⟨_, _, _, _, _, _, _, _, _, _, _, q1, q2, fun u hu => itself (hf.below hu) (hh.below hu) (Ask_n0 k l v b a n sa ha sn sc hn hc g1 g2 t m u h m1 (by omega) (hh.below hu)), fun u hu => itself (hf.below hu) (hh.below hu) (rAsk_n0 k l v b a n sa ha sn sc hn hc g1 g2 t m u h m1 (by omega) (hh.below hu))⟩
end
theorem walk (k l v b : Int) (c : CellV) (t m : Int) (h0 : (Lit.int .i64 k).wf = true) (h1 : (Lit.int .i64 l).wf = true) (h2 : (Lit.int .i64 v).wf = true) (h3 : (Lit.int .i64 b).wf = true) {W : World} (hc : IsCell W c) (i0 : (Lit.int .i64 t).wf = true) (i1 : (Lit.int .i64 m).wf = true) :
    Calls Try.prog 3 #[.agg #[.int .i64 k, .int .i64 l, .int .i64 v, .int .i64 b], .agg #[.int .i64 c.a, .int .i64 c.n, .slice c.sa c.sn c.sc, .slice c.ha c.hn c.hc], .agg ([t, m].map (Value.int .i64)).toArray] W fun e w' => e = .returned (.bool true) ∧ Below W.heap.size W w' := by
  obtain ⟨q1, q2⟩ := hc.len
  show Calls Try.prog 3 #[.agg #[.int .i64 k, .int .i64 l, .int .i64 v, .int .i64 b], .agg #[.int .i64 c.a, .int .i64 c.n, .slice c.sa c.sn c.sc, .slice c.ha c.hn c.hc], .agg #[.int .i64 t, .int .i64 m]] W fun e w' => e = .returned (.bool true) ∧ Below W.heap.size W w'
  obtain ⟨s1, _⟩ := hc.ss.at_
  obtain ⟨g1, g2, s2⟩ := hc.hs.at_
  have c1 := hc.hs.1
  have c2 := hc.hs.2.1
  by_cases f : c.sn ≤ 40 ∧ c.hn ≤ 40
  · obtain ⟨mr, M1, M2⟩ := may_e (k := k) (l := l) (v := v) (b := b) (a := c.a) (n := c.n) (sa := c.sa) (sc := c.sc) (hc := c.hc) s2 q1 f.2
    obtain ⟨lr, L1, L2⟩ := tot_e (k := k) (l := l) (v := v) (b := b) (a := c.a) (n := c.n) (sa := c.sa) (sc := c.sc) (hc := c.hc) t s2 q1 f.2 c1 c2
    obtain ⟨er, E1, E2⟩ := end_e (k := k) (l := l) (v := v) (b := b) (a := c.a) (n := c.n) (sa := c.sa) (sc := c.sc) (hc := c.hc) s2 q1 f.2
    obtain ⟨T, H, xn, f', yn, g1', g2', al, rm, rt, rs, x1, x2, K1, K2⟩ := ask_e (k := k) (l := l) (v := v) (b := b) (a := c.a) (n := c.n) (sc := c.sc) (hc := c.hc) t m s1 s2 f.1 f.2 c1 c2
    exact few_yes k l v b c.a c.n t m c.sa c.ha c.sn c.sc c.hn c.hc W f.1 f.2 T H xn f' yn g1' g2' al rm rt rs mr lr er x1 x2 K1 K2 M1 M2 L1 L2 E1 E2
  · exact few_no k l v b c.a c.n t m c.sa c.ha c.sn c.sc c.hn c.hc W f q1 q2

theorem own : ownKnob Try.prog.godebug = none := by kernel_rfl
theorem laidOut : laidOutB Try.prog = true := by kernel_rfl
theorem contract (H : Type) (enc : TypeId × Value → H) (W : World) (base : Nat) (args : Array Value) (ds gs : List (DataW H)) (before : List MemPlace)
    (hval : ∀ (j : Nat) t v, Try.f3.params[j]? = some t → args[j]? = some v → Value.okWide Try.prog W .any base t v)
    (hW : DataW.Whole enc Try.prog Try.f3.params.toList Rows.exactAsksSpec.vars false W args.toList ds gs before) :
    Calls Try.prog 3 args W fun e W' => ∃ v, e = .returned v ∧ Rows.exactAsksSpec.post enc Try.prog Try.f3 false true false false W args v W' := by
  have hW' := hW
  obtain ⟨p, q, hA0, hV, rfl, hfz, hnd⟩ := hW
  have hA : DataW.TrodAll enc Try.prog W 0 (fun _ => true) true Try.f3.params.toList args.toList ds p := hA0
  rw [Try.params3] at hA hval
  obtain ⟨v0, vs0, d0, ds0, p0, q0, hargs, rfl, rfl, h0, r0⟩ := trodAll_cons hA
  obtain ⟨v1, vs1, d1, ds1, p1, q1, rfl, rfl, rfl, h1, r1⟩ := trodAll_cons r0
  obtain ⟨v2, vs2, d2, ds2, p2, q2, rfl, rfl, rfl, h2, r2⟩ := trodAll_cons r1
  obtain ⟨rfl, rfl, rfl⟩ := trodAll_nil r2
  obtain rfl : args = #[v0, v1, v2] := by cases args; simp_all
  obtain ⟨rfl, rfl⟩ := trodVars_none hV
  have k0 := h0
  have lt0 : ∀ x ∈ p0, x.block < W.heap.size := by obtain ⟨m, hm⟩ := k0; exact DataW.trod_lt m _ _ _ hm
  obtain ⟨p0_k, p0_l, p0_v, p0_b, rfl, wp0_k, wp0_l, wp0_v, wp0_b⟩ := open_pol (hval 0 23 v0 rfl rfl) h0
  have k1 := h1
  have lt1 : ∀ x ∈ p1, x.block < W.heap.size := by obtain ⟨m, hm⟩ := k1; exact DataW.trod_lt m _ _ _ hm
  obtain ⟨c1, rfl, w1⟩ := open_cell (hval 1 27 v1 rfl rfl) h1
  have k2 := h2
  have lt2 : ∀ x ∈ p2, x.block < W.heap.size := by obtain ⟨m, hm⟩ := k2; exact DataW.trod_lt m _ _ _ hm
  obtain ⟨l2, rfl, hl2, wl2⟩ := open_arr_int Try.underlying28 Try.underlying3 (by kernel_rfl) (by kernel_rfl) (hval 2 28 v2 rfl rfl) h2
  obtain ⟨x2_0, x2_1, rfl⟩ : ∃ x2_0 x2_1, l2 = [x2_0, x2_1] := by
    match l2, hl2 with
    | [x2_0, x2_1], _ => exact ⟨x2_0, x2_1, rfl⟩
  clear hA0
  refine (walk p0_k p0_l p0_v p0_b c1 x2_0 x2_1 wp0_k wp0_l wp0_v wp0_b w1 (wl2 x2_0 (by simp)) (wl2 x2_1 (by simp))).mono fun e W' ⟨he, bel⟩ => ?_
  subst he
  exact ⟨_, rfl, _, _, _, [], _, [], hW', trodAll_mk1 (shut_bool Try.underlying4 _), (trodAll_cons_mk (Below.trod laidOut (by kernel_rfl) (of_decide_eq_true (by kernel_rfl)) k0 bel lt0) (trodAll_cons_mk (Below.trod laidOut (by kernel_rfl) (of_decide_eq_true (by kernel_rfl)) k1 bel lt1) (trodAll_cons_mk (Below.trod laidOut (by kernel_rfl) (of_decide_eq_true (by kernel_rfl)) k2 bel lt2) trodAll_mk0))), rfl, bel.frame _, fun h => by cases h⟩

set_option maxRecDepth 100000 in
theorem lifted (os : Os) (started : os.Started) (H : Type) (enc : TypeId × Value → H) :
    ReturnsInHanded {} Try.checked os 3 .any (Rows.exactAsksSpec.pre6 enc Try.prog Try.f3 Rows.exactAsksRow.domain false) (Rows.exactAsksSpec.post enc Try.prog Try.f3 false true false false) := by
  refine returnsInHanded_of_change (C := Try.checked) own started (by kernel_rfl) Try.func3
    (ChangeSpec.witness6 (enc := enc) (C := Try.checked) false ⟨#[], #[.agg #[.int .i64 0, .int .i64 0, .int .i64 0, .int .i64 0], .agg #[.int .i64 0, .int .i64 0, .slice none 0 0, .slice none 0 0], .agg #[.int .i64 0, .int .i64 0]], []⟩ 8 (by kernel_rfl) (by kernel_rfl) (by kernel_rfl) (by kernel_rfl)) ?_
  intro W base args ds gs before hval hW _ _
  exact contract H enc W base args ds gs before hval hW

theorem over : Rows.exactAsksRow.holds Try.pinned (OpenSpec.ofChange Rows.exactAsksSpec) :=
  OpenClaim.holds_of_wide 3 Try.f3 rfl rfl rfl rfl rfl rfl rfl ⟨rfl, rfl, rfl, rfl, rfl⟩ rfl rfl rfl rfl rfl (by kernel_rfl) Try.func3 (by kernel_rfl)
    (of_decide_eq_true (by kernel_rfl)) (by unfold Func.isWrapper; first | (rw [if_pos (by decide +kernel)]; kernel_rfl) | (rw [if_neg (by decide +kernel)]; exact ⟨rfl, rfl⟩))
    (fun os started H enc _ => lifted os started H enc)
end Go.Proofs.Ytgdcgilhaedbmaa.exactAsks
namespace Go.Proofs.Ytgdcgilhaedbmaa
theorem exactAsks_proved : Rows.ExactAsksSaid := exactAsks.over
end Go.Proofs.Ytgdcgilhaedbmaa

