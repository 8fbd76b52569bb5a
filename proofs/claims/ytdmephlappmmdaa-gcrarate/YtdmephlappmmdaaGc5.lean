/- The contracts of the document's own Ask, where it is done. WRITTEN BY gen_gc5.py. -/
import Derived.Test.YtdmephlappmmdaaGc4
-- prune
namespace Go.Proofs.Ytdmephlappmmdaa
open Go.ChangeShapes Go.WideShapes Go.ChangeAt Go.RowKit
set_option linter.unusedVariables false

set_option maxRecDepth 100000 in
set_option maxHeartbeats 4000000 in
theorem rAsk_al (k l v b a n t m T R Q M : Int) (sa ha : Option Addr) (sn sc hn hc : Nat) (w : World) (h : MayG k l v b a n sn hn) (t1 : 0 ≤ t) (t2 : t ≤ 1099511627776) (m1 : 1 ≤ m) (m2 : m ≤ 1048576)
    (hT : tmax t a = T) (hR : levG l a n T = R) (hQ : m * v = Q) (hM : l * v = M) (hq : R + Q ≤ M) :
    Calls Try.prog 11 #[.agg #[.int .i64 k, .int .i64 l, .int .i64 v, .int .i64 b], .agg #[.int .i64 a, .int .i64 n, .slice sa sn sc, .slice ha hn hc], .int .i64 t, .int .i64 m] w fun e w' => e = .returned (.tuple #[.agg #[.int .i64 T, .int .i64 (R + Q), .slice none 0 0, .slice none 0 0], .agg #[.bool true, .int .i64 ((M - (R + Q)) / v), .int .i64 0, .int .i64 (upS (R + Q) l)]]) ∧ Below w.heap.size w w' := by
  have MK := Lib.hid (fun u => rMay_yes k l v b a n sa ha sn sc hn hc u h)
  have TK := Lib.hid (fun u => rTime_yes t u t1 t2)
  have WK := Lib.hid (fun u => rWeighs_yes m u m1 m2)
  obtain ⟨l1, l2, v1, v2⟩ := h.1.lv
  obtain ⟨x1, x2⟩ := h.1.M
  have tb : a ≤ T ∧ T ≤ 1099511627776 := by have := h.2.2.1; rw [← hT]; unfold tmax; split <;> omega
  have tmm : (t < a ∧ T = a) ∨ (a ≤ t ∧ T = t) := by rw [← hT]; unfold tmax; split <;> omega
  have LV := Lib.hid (fun u => rLevel_yes k l v b a n T sa ha sn sc hn hc u h (by have := h.2.2.1; omega) tb.2)
  obtain ⟨hp, hk, ⟨ha1, ha2⟩, hn1, hn2, hs, hh⟩ := h
  have rb := levG_bd (l := l) hn1 tb.1 (by omega)
  have qb := prod_bd (show 0 ≤ m by omega) m2 (show 0 ≤ v by omega) v2
  rw [show tmax T a = T by unfold tmax; split <;> omega, hR] at LV
  rw [hR] at rb
  rw [hQ] at qb
  rw [hM] at x1 x2 hn2
  obtain ⟨rb1, rb2⟩ := rb
  obtain ⟨qb1, qb2⟩ := qb
  have e1 : IntKind.i64.wrap (m * v) = Q := by rw [hQ]; exact wrap_i (by omega) (by omega)
  have e2 : IntKind.i64.wrap (l * v) = M := by rw [hM]; exact wrap_i (by omega) (by omega)
  have dq : decide (R + Q ≤ M) = true := by simp; omega
  have UO := Lib.hid (fun (u : World) (hh : 0 ≤ R + Q - M) => rUp_go (R + Q - M) l u hh (by omega) l1 l2)
  have UH := Lib.hid (fun u => rUp_go (R + Q) l u (by omega) (by omega) l1 l2)

  have d1 : 0 ≤ (M - (R + Q)) / v := Int.ediv_nonneg (by omega) (by omega)
  have d2 : (M - (R + Q)) / v ≤ M - (R + Q) := Int.ediv_le_self _ (by omega)
  have vz : (v == 0) = false := by simp; omega
  have HP := Lib.hid (AskAt.made w k l v b a n (.slice sa sn sc) (.slice ha hn hc))
  clear hp hk hs hh hT hR hQ hM tb
  generalize upS (R + Q) l = RS at *
  go_enter Try.func11, Try.ntmps11
  go_wp2_with fail
  refine (MK.out _).mono ?_; rintro e w1 ⟨rfl, hb⟩
  have hp := HP.out.step hb
  have z0 := hp.pc.p0
  have z4 := hp.pc.c0
  have z1 := hp.pc.p1
  have z5 := hp.pc.c1
  have z2 := hp.pc.p2
  have z6 := hp.pc.c2
  have z3 := hp.pc.p3
  have z7 := hp.pc.c3
  have HQ := Lib.hid hp
  clear hp hb HP MK
  go_wp2_with fail
  refine (TK.out _).mono ?_; rintro e w' ⟨rfl, rfl⟩
  go_wp2_with fail
  refine (WK.out _).mono ?_; rintro e w' ⟨rfl, rfl⟩
  go_upto_region 3 with (fail)
  go_cut [2] (fun s2 wx => s2 = .int .i64 T ∧ wx = w1)
  case first =>
    rcases tmm with ⟨q1, q2⟩ | ⟨q1, q2⟩
    · go_upto_region 4 with (fail)
      all_goals (go_meet; exact ⟨by rw [q2], rfl⟩)
    · go_upto_region 4 with (fail)
      all_goals (go_meet; exact ⟨by rw [q2], rfl⟩)
  case rest =>
  obtain ⟨rfl, rfl⟩ := hcut
  clear tmm
  go_wp2_with fail
  refine (LV.out _).mono ?_; rintro e w2 ⟨rfl, hb⟩
  have hp := HQ.out.step hb
  clear z0 z1 z2 z3 z4 z5 z6 z7 HQ LV
  have z0 := hp.pc.p0
  have z4 := hp.pc.c0
  have z1 := hp.pc.p1
  have z5 := hp.pc.c1
  have z2 := hp.pc.p2
  have z6 := hp.pc.c2
  have z3 := hp.pc.p3
  have z7 := hp.pc.c3
  obtain ⟨r0, r1, r2, r3, r4, r5, r6, r7, r8, r9⟩ := hp.res
  have HF := Lib.hid hp
  have b3 := hp.sz
  have b0 : w.heap.size < w2.heap.size := by omega
  have b1 : w.heap.size + 1 < w2.heap.size := by omega
  have b2 : w.heap.size + 1 + 1 < w2.heap.size := by omega
  clear hp hb
  go_wp2_with fail
  refine (UH.out _).mono ?_; rintro e w' ⟨rfl, rfl⟩
  go_wp2_with fail
  have hp := HF.out.alloc (.cells #[.bool true, .int .i64 ((M - (R + Q)) / v), .int .i64 0, .int .i64 RS] 32)
  have hv := Has.made w2 32 [.bool true, .int .i64 ((M - (R + Q)) / v), .int .i64 0, .int .i64 RS]
  replace hv : Has (w2.alloc (.cells #[.bool true, .int .i64 ((M - (R + Q)) / v), .int .i64 0, .int .i64 RS] 32)) w2.heap.size 32 [.bool true, .int .i64 ((M - (R + Q)) / v), .int .i64 0, .int .i64 RS] := hv
  clear z0 z1 z2 z3 z4 z5 z6 z7 r0 r1 r2 r3 r4 r5 r6 r7 r8 r9 HF
  generalize w2.alloc (.cells #[.bool true, .int .i64 ((M - (R + Q)) / v), .int .i64 0, .int .i64 RS] 32) = wz at hp hv ⊢
  generalize w2.heap.size = g at hv b0 b1 b2 b3 ⊢
  have z0 := hp.pc.p0
  have z4 := hp.pc.c0
  have z1 := hp.pc.p1
  have z5 := hp.pc.c1
  have z2 := hp.pc.p2
  have z6 := hp.pc.c2
  have z3 := hp.pc.p3
  have z7 := hp.pc.c3
  obtain ⟨r0, r1, r2, r3, r4, r5, r6, r7, r8, r9⟩ := hp.res
  have y0 := hv.cell 0
  have y1 := hv.cell 1
  have y2 := hv.cell 2
  have y3 := hv.cell 3
  simp at y0 y1 y2 y3
  have g0 : g ≠ w.heap.size + 1 + 1 := by omega
  have g1 : g ≠ w.heap.size + 1 + 1 + 1 := by omega
  have g2 : w.heap.size + 1 + 1 ≠ g := by omega
  have g3 : w.heap.size + 1 + 1 + 1 ≠ g := by omega
  have HF := Lib.hid hp
  clear hp hv
  go_region
  all_goals go_wp2_with fail
  all_goals refine bodyPost_ret (v := .tuple #[.agg #[.int .i64 T, .int .i64 (R + Q), .slice none 0 0, .slice none 0 0], .agg #[.bool true, .int .i64 ((M - (R + Q)) / v), .int .i64 0, .int .i64 RS]]) (by simp [results, Try.results11, go_sem, r0, r1, r2, r3, r4, r5, r6, r7]) rfl ⟨rfl, ?_⟩
  all_goals first | (with_reducible exact (HF.out.drew).put _ _ _ _ _ _ _ _) | (with_reducible exact (HF.out.drew).put2 _ _ _ _ _ _ _ _) | (with_reducible exact HF.out.put _ _ _ _ _ _ _ _) | (with_reducible exact HF.out.put2 _ _ _ _ _ _ _ _) | (with_reducible exact (HF.out.put _ _ _ _ _ _ _ _).drew) | (with_reducible exact (HF.out.put2 _ _ _ _ _ _ _ _).drew)

set_option maxRecDepth 100000 in
set_option maxHeartbeats 4000000 in
theorem rAsk_re (k l v b a n t m T R Q M : Int) (sa ha : Option Addr) (sn sc hn hc : Nat) (w : World) (h : MayG k l v b a n sn hn) (t1 : 0 ≤ t) (t2 : t ≤ 1099511627776) (m1 : 1 ≤ m) (m2 : m ≤ 1048576)
    (hT : tmax t a = T) (hR : levG l a n T = R) (hQ : m * v = Q) (hM : l * v = M) (hq : M < R + Q) (hl : m ≤ l) :
    Calls Try.prog 11 #[.agg #[.int .i64 k, .int .i64 l, .int .i64 v, .int .i64 b], .agg #[.int .i64 a, .int .i64 n, .slice sa sn sc, .slice ha hn hc], .int .i64 t, .int .i64 m] w fun e w' => e = .returned (.tuple #[.agg #[.int .i64 T, .int .i64 R, .slice none 0 0, .slice none 0 0], .agg #[.bool false, .int .i64 ((M - R) / v), .int .i64 (upS (R + Q - M) l), .int .i64 (upS R l)]]) ∧ Below w.heap.size w w' := by
  have MK := Lib.hid (fun u => rMay_yes k l v b a n sa ha sn sc hn hc u h)
  have TK := Lib.hid (fun u => rTime_yes t u t1 t2)
  have WK := Lib.hid (fun u => rWeighs_yes m u m1 m2)
  obtain ⟨l1, l2, v1, v2⟩ := h.1.lv
  obtain ⟨x1, x2⟩ := h.1.M
  have tb : a ≤ T ∧ T ≤ 1099511627776 := by have := h.2.2.1; rw [← hT]; unfold tmax; split <;> omega
  have tmm : (t < a ∧ T = a) ∨ (a ≤ t ∧ T = t) := by rw [← hT]; unfold tmax; split <;> omega
  have LV := Lib.hid (fun u => rLevel_yes k l v b a n T sa ha sn sc hn hc u h (by have := h.2.2.1; omega) tb.2)
  obtain ⟨hp, hk, ⟨ha1, ha2⟩, hn1, hn2, hs, hh⟩ := h
  have rb := levG_bd (l := l) hn1 tb.1 (by omega)
  have qb := prod_bd (show 0 ≤ m by omega) m2 (show 0 ≤ v by omega) v2
  rw [show tmax T a = T by unfold tmax; split <;> omega, hR] at LV
  rw [hR] at rb
  rw [hQ] at qb
  rw [hM] at x1 x2 hn2
  obtain ⟨rb1, rb2⟩ := rb
  obtain ⟨qb1, qb2⟩ := qb
  have e1 : IntKind.i64.wrap (m * v) = Q := by rw [hQ]; exact wrap_i (by omega) (by omega)
  have e2 : IntKind.i64.wrap (l * v) = M := by rw [hM]; exact wrap_i (by omega) (by omega)
  have dq : decide (R + Q ≤ M) = false := by simp; omega
  have UO := Lib.hid (fun (u : World) (hh : 0 ≤ R + Q - M) => rUp_go (R + Q - M) l u hh (by omega) l1 l2)
  have UH := Lib.hid (fun u => rUp_go R l u (by omega) (by omega) l1 l2)
  have UO := Lib.hid (fun u => UO.out u (by omega))
  have d1 : 0 ≤ (M - R) / v := Int.ediv_nonneg (by omega) (by omega)
  have d2 : (M - R) / v ≤ M - R := Int.ediv_le_self _ (by omega)
  have vz : (v == 0) = false := by simp; omega
  have HP := Lib.hid (AskAt.made w k l v b a n (.slice sa sn sc) (.slice ha hn hc))
  clear hp hk hs hh hT hR hQ hM tb
  generalize upS R l = RS at *
  go_enter Try.func11, Try.ntmps11
  go_wp2_with fail
  refine (MK.out _).mono ?_; rintro e w1 ⟨rfl, hb⟩
  have hp := HP.out.step hb
  have z0 := hp.pc.p0
  have z4 := hp.pc.c0
  have z1 := hp.pc.p1
  have z5 := hp.pc.c1
  have z2 := hp.pc.p2
  have z6 := hp.pc.c2
  have z3 := hp.pc.p3
  have z7 := hp.pc.c3
  have HQ := Lib.hid hp
  clear hp hb HP MK
  go_wp2_with fail
  refine (TK.out _).mono ?_; rintro e w' ⟨rfl, rfl⟩
  go_wp2_with fail
  refine (WK.out _).mono ?_; rintro e w' ⟨rfl, rfl⟩
  go_upto_region 3 with (fail)
  go_cut [2] (fun s2 wx => s2 = .int .i64 T ∧ wx = w1)
  case first =>
    rcases tmm with ⟨q1, q2⟩ | ⟨q1, q2⟩
    · go_upto_region 4 with (fail)
      all_goals (go_meet; exact ⟨by rw [q2], rfl⟩)
    · go_upto_region 4 with (fail)
      all_goals (go_meet; exact ⟨by rw [q2], rfl⟩)
  case rest =>
  obtain ⟨rfl, rfl⟩ := hcut
  clear tmm
  go_wp2_with fail
  refine (LV.out _).mono ?_; rintro e w2 ⟨rfl, hb⟩
  have hp := HQ.out.step hb
  clear z0 z1 z2 z3 z4 z5 z6 z7 HQ LV
  have z0 := hp.pc.p0
  have z4 := hp.pc.c0
  have z1 := hp.pc.p1
  have z5 := hp.pc.c1
  have z2 := hp.pc.p2
  have z6 := hp.pc.c2
  have z3 := hp.pc.p3
  have z7 := hp.pc.c3
  obtain ⟨r0, r1, r2, r3, r4, r5, r6, r7, r8, r9⟩ := hp.res
  have HF := Lib.hid hp
  have b3 := hp.sz
  have b0 : w.heap.size < w2.heap.size := by omega
  have b1 : w.heap.size + 1 < w2.heap.size := by omega
  have b2 : w.heap.size + 1 + 1 < w2.heap.size := by omega
  clear hp hb
  go_wp2_with fail
  refine (UO.out _).mono ?_; rintro e w' ⟨rfl, rfl⟩
  go_wp2_with fail
  refine (UH.out _).mono ?_; rintro e w' ⟨rfl, rfl⟩
  go_wp2_with fail
  have hp := HF.out.alloc (.cells #[.bool false, .int .i64 ((M - R) / v), .int .i64 (upS (R + Q - M) l), .int .i64 RS] 32)
  have hv := Has.made w2 32 [.bool false, .int .i64 ((M - R) / v), .int .i64 (upS (R + Q - M) l), .int .i64 RS]
  replace hv : Has (w2.alloc (.cells #[.bool false, .int .i64 ((M - R) / v), .int .i64 (upS (R + Q - M) l), .int .i64 RS] 32)) w2.heap.size 32 [.bool false, .int .i64 ((M - R) / v), .int .i64 (upS (R + Q - M) l), .int .i64 RS] := hv
  clear z0 z1 z2 z3 z4 z5 z6 z7 r0 r1 r2 r3 r4 r5 r6 r7 r8 r9 HF
  generalize w2.alloc (.cells #[.bool false, .int .i64 ((M - R) / v), .int .i64 (upS (R + Q - M) l), .int .i64 RS] 32) = wz at hp hv ⊢
  generalize w2.heap.size = g at hv b0 b1 b2 b3 ⊢
  have z0 := hp.pc.p0
  have z4 := hp.pc.c0
  have z1 := hp.pc.p1
  have z5 := hp.pc.c1
  have z2 := hp.pc.p2
  have z6 := hp.pc.c2
  have z3 := hp.pc.p3
  have z7 := hp.pc.c3
  obtain ⟨r0, r1, r2, r3, r4, r5, r6, r7, r8, r9⟩ := hp.res
  have y0 := hv.cell 0
  have y1 := hv.cell 1
  have y2 := hv.cell 2
  have y3 := hv.cell 3
  simp at y0 y1 y2 y3
  have g0 : g ≠ w.heap.size + 1 + 1 := by omega
  have g1 : g ≠ w.heap.size + 1 + 1 + 1 := by omega
  have g2 : w.heap.size + 1 + 1 ≠ g := by omega
  have g3 : w.heap.size + 1 + 1 + 1 ≠ g := by omega
  have HF := Lib.hid hp
  clear hp hv
  go_region
  all_goals go_wp2_with fail
  all_goals refine bodyPost_ret (v := .tuple #[.agg #[.int .i64 T, .int .i64 R, .slice none 0 0, .slice none 0 0], .agg #[.bool false, .int .i64 ((M - R) / v), .int .i64 (upS (R + Q - M) l), .int .i64 RS]]) (by simp [results, Try.results11, go_sem, r0, r1, r2, r3, r4, r5, r6, r7]) rfl ⟨rfl, ?_⟩
  all_goals first | (with_reducible exact (HF.out.drew).put _ _ _ _ _ _ _ _) | (with_reducible exact (HF.out.drew).put2 _ _ _ _ _ _ _ _) | (with_reducible exact HF.out.put _ _ _ _ _ _ _ _) | (with_reducible exact HF.out.put2 _ _ _ _ _ _ _ _) | (with_reducible exact (HF.out.put _ _ _ _ _ _ _ _).drew) | (with_reducible exact (HF.out.put2 _ _ _ _ _ _ _ _).drew)

set_option maxRecDepth 100000 in
set_option maxHeartbeats 4000000 in
theorem rAsk_nv (k l v b a n t m T R Q M : Int) (sa ha : Option Addr) (sn sc hn hc : Nat) (w : World) (h : MayG k l v b a n sn hn) (t1 : 0 ≤ t) (t2 : t ≤ 1099511627776) (m1 : 1 ≤ m) (m2 : m ≤ 1048576)
    (hT : tmax t a = T) (hR : levG l a n T = R) (hQ : m * v = Q) (hM : l * v = M) (hq : M < R + Q) (hl : l < m) :
    Calls Try.prog 11 #[.agg #[.int .i64 k, .int .i64 l, .int .i64 v, .int .i64 b], .agg #[.int .i64 a, .int .i64 n, .slice sa sn sc, .slice ha hn hc], .int .i64 t, .int .i64 m] w fun e w' => e = .returned (.tuple #[.agg #[.int .i64 T, .int .i64 R, .slice none 0 0, .slice none 0 0], .agg #[.bool false, .int .i64 ((M - R) / v), .int .i64 2199023255552, .int .i64 (upS R l)]]) ∧ Below w.heap.size w w' := by
  have MK := Lib.hid (fun u => rMay_yes k l v b a n sa ha sn sc hn hc u h)
  have TK := Lib.hid (fun u => rTime_yes t u t1 t2)
  have WK := Lib.hid (fun u => rWeighs_yes m u m1 m2)
  obtain ⟨l1, l2, v1, v2⟩ := h.1.lv
  obtain ⟨x1, x2⟩ := h.1.M
  have tb : a ≤ T ∧ T ≤ 1099511627776 := by have := h.2.2.1; rw [← hT]; unfold tmax; split <;> omega
  have tmm : (t < a ∧ T = a) ∨ (a ≤ t ∧ T = t) := by rw [← hT]; unfold tmax; split <;> omega
  have LV := Lib.hid (fun u => rLevel_yes k l v b a n T sa ha sn sc hn hc u h (by have := h.2.2.1; omega) tb.2)
  obtain ⟨hp, hk, ⟨ha1, ha2⟩, hn1, hn2, hs, hh⟩ := h
  have rb := levG_bd (l := l) hn1 tb.1 (by omega)
  have qb := prod_bd (show 0 ≤ m by omega) m2 (show 0 ≤ v by omega) v2
  rw [show tmax T a = T by unfold tmax; split <;> omega, hR] at LV
  rw [hR] at rb
  rw [hQ] at qb
  rw [hM] at x1 x2 hn2
  obtain ⟨rb1, rb2⟩ := rb
  obtain ⟨qb1, qb2⟩ := qb
  have e1 : IntKind.i64.wrap (m * v) = Q := by rw [hQ]; exact wrap_i (by omega) (by omega)
  have e2 : IntKind.i64.wrap (l * v) = M := by rw [hM]; exact wrap_i (by omega) (by omega)
  have dq : decide (R + Q ≤ M) = false := by simp; omega
  have UO := Lib.hid (fun (u : World) (hh : 0 ≤ R + Q - M) => rUp_go (R + Q - M) l u hh (by omega) l1 l2)
  have UH := Lib.hid (fun u => rUp_go R l u (by omega) (by omega) l1 l2)

  have d1 : 0 ≤ (M - R) / v := Int.ediv_nonneg (by omega) (by omega)
  have d2 : (M - R) / v ≤ M - R := Int.ediv_le_self _ (by omega)
  have vz : (v == 0) = false := by simp; omega
  have HP := Lib.hid (AskAt.made w k l v b a n (.slice sa sn sc) (.slice ha hn hc))
  clear hp hk hs hh hT hR hQ hM tb
  generalize upS R l = RS at *
  go_enter Try.func11, Try.ntmps11
  go_wp2_with fail
  refine (MK.out _).mono ?_; rintro e w1 ⟨rfl, hb⟩
  have hp := HP.out.step hb
  have z0 := hp.pc.p0
  have z4 := hp.pc.c0
  have z1 := hp.pc.p1
  have z5 := hp.pc.c1
  have z2 := hp.pc.p2
  have z6 := hp.pc.c2
  have z3 := hp.pc.p3
  have z7 := hp.pc.c3
  have HQ := Lib.hid hp
  clear hp hb HP MK
  go_wp2_with fail
  refine (TK.out _).mono ?_; rintro e w' ⟨rfl, rfl⟩
  go_wp2_with fail
  refine (WK.out _).mono ?_; rintro e w' ⟨rfl, rfl⟩
  go_upto_region 3 with (fail)
  go_cut [2] (fun s2 wx => s2 = .int .i64 T ∧ wx = w1)
  case first =>
    rcases tmm with ⟨q1, q2⟩ | ⟨q1, q2⟩
    · go_upto_region 4 with (fail)
      all_goals (go_meet; exact ⟨by rw [q2], rfl⟩)
    · go_upto_region 4 with (fail)
      all_goals (go_meet; exact ⟨by rw [q2], rfl⟩)
  case rest =>
  obtain ⟨rfl, rfl⟩ := hcut
  clear tmm
  go_wp2_with fail
  refine (LV.out _).mono ?_; rintro e w2 ⟨rfl, hb⟩
  have hp := HQ.out.step hb
  clear z0 z1 z2 z3 z4 z5 z6 z7 HQ LV
  have z0 := hp.pc.p0
  have z4 := hp.pc.c0
  have z1 := hp.pc.p1
  have z5 := hp.pc.c1
  have z2 := hp.pc.p2
  have z6 := hp.pc.c2
  have z3 := hp.pc.p3
  have z7 := hp.pc.c3
  obtain ⟨r0, r1, r2, r3, r4, r5, r6, r7, r8, r9⟩ := hp.res
  have HF := Lib.hid hp
  have b3 := hp.sz
  have b0 : w.heap.size < w2.heap.size := by omega
  have b1 : w.heap.size + 1 < w2.heap.size := by omega
  have b2 : w.heap.size + 1 + 1 < w2.heap.size := by omega
  clear hp hb
  go_wp2_with fail
  refine (UH.out _).mono ?_; rintro e w' ⟨rfl, rfl⟩
  go_wp2_with fail
  have hp := HF.out.alloc (.cells #[.bool false, .int .i64 ((M - R) / v), .int .i64 2199023255552, .int .i64 RS] 32)
  have hv := Has.made w2 32 [.bool false, .int .i64 ((M - R) / v), .int .i64 2199023255552, .int .i64 RS]
  replace hv : Has (w2.alloc (.cells #[.bool false, .int .i64 ((M - R) / v), .int .i64 2199023255552, .int .i64 RS] 32)) w2.heap.size 32 [.bool false, .int .i64 ((M - R) / v), .int .i64 2199023255552, .int .i64 RS] := hv
  clear z0 z1 z2 z3 z4 z5 z6 z7 r0 r1 r2 r3 r4 r5 r6 r7 r8 r9 HF
  generalize w2.alloc (.cells #[.bool false, .int .i64 ((M - R) / v), .int .i64 2199023255552, .int .i64 RS] 32) = wz at hp hv ⊢
  generalize w2.heap.size = g at hv b0 b1 b2 b3 ⊢
  have z0 := hp.pc.p0
  have z4 := hp.pc.c0
  have z1 := hp.pc.p1
  have z5 := hp.pc.c1
  have z2 := hp.pc.p2
  have z6 := hp.pc.c2
  have z3 := hp.pc.p3
  have z7 := hp.pc.c3
  obtain ⟨r0, r1, r2, r3, r4, r5, r6, r7, r8, r9⟩ := hp.res
  have y0 := hv.cell 0
  have y1 := hv.cell 1
  have y2 := hv.cell 2
  have y3 := hv.cell 3
  simp at y0 y1 y2 y3
  have g0 : g ≠ w.heap.size + 1 + 1 := by omega
  have g1 : g ≠ w.heap.size + 1 + 1 + 1 := by omega
  have g2 : w.heap.size + 1 + 1 ≠ g := by omega
  have g3 : w.heap.size + 1 + 1 + 1 ≠ g := by omega
  have HF := Lib.hid hp
  clear hp hv
  go_region
  all_goals go_wp2_with fail
  all_goals refine bodyPost_ret (v := .tuple #[.agg #[.int .i64 T, .int .i64 R, .slice none 0 0, .slice none 0 0], .agg #[.bool false, .int .i64 ((M - R) / v), .int .i64 2199023255552, .int .i64 RS]]) (by simp [results, Try.results11, go_sem, r0, r1, r2, r3, r4, r5, r6, r7]) rfl ⟨rfl, ?_⟩
  all_goals first | (with_reducible exact (HF.out.drew).put _ _ _ _ _ _ _ _) | (with_reducible exact (HF.out.drew).put2 _ _ _ _ _ _ _ _) | (with_reducible exact HF.out.put _ _ _ _ _ _ _ _) | (with_reducible exact HF.out.put2 _ _ _ _ _ _ _ _) | (with_reducible exact (HF.out.put _ _ _ _ _ _ _ _).drew) | (with_reducible exact (HF.out.put2 _ _ _ _ _ _ _ _).drew)
end Go.Proofs.Ytdmephlappmmdaa
