/- The contract of the document's own Ask, done. WRITTEN BY gen_fx5.py. -/
import Derived.Test.YtdmephlappmmdabFx4
-- prune
namespace Go.Proofs.Ytdmephlappmmdab
open Go.ChangeShapes Go.WideShapes Go.ChangeAt Go.RowKit
set_option linter.unusedVariables false

set_option maxRecDepth 100000 in
set_option maxHeartbeats 4000000 in
theorem rAsk_al (k l v b a n t m T R X : Int) (sa ha : Option Addr) (sn sc hn hc : Nat) (w : World) (h : MayG k l v b a n sn hn) (t1 : 0 ≤ t) (t2 : t ≤ 1099511627776) (m1 : 1 ≤ m) (m2 : m ≤ 1048576)
    (hT : tmax t a = T) (hR : totF v a n T = R) (hY : v * (T / v + 1) - T = X) (hq : R + m ≤ l) :
    Calls Try.prog 11 #[.agg #[.int .i64 k, .int .i64 l, .int .i64 v, .int .i64 b], .agg #[.int .i64 a, .int .i64 n, .slice sa sn sc, .slice ha hn hc], .int .i64 t, .int .i64 m] w fun e w' => e = .returned (.tuple #[.agg #[.int .i64 T, .int .i64 (R + m), .slice none 0 0, .slice none 0 0], .agg #[.bool true, .int .i64 (l - (R + m)), .int .i64 0, .int .i64 X]]) ∧ Below w.heap.size w w' := by
  have MK := Lib.hid (fun u => rMay_yes k l v b a n sa ha sn sc hn hc u h)
  have TK := Lib.hid (fun u => rTime_yes t u t1 t2)
  have WK := Lib.hid (fun u => rWeighs_yes m u m1 m2)
  obtain ⟨l1, l2, v1, v2⟩ := h.1.lv
  have tb : a ≤ T ∧ T ≤ 1099511627776 := by have := h.2.2.1; rw [← hT]; unfold tmax; split <;> omega
  have tmm : (t < a ∧ T = a) ∨ (a ≤ t ∧ T = t) := by rw [← hT]; unfold tmax; split <;> omega
  have LV := Lib.hid (fun u => rTotal_yes k l v b a n T sa ha sn sc hn hc u h (by have := h.2.2.1; omega) tb.2)
  obtain ⟨hp, hk, ⟨ha1, ha2⟩, hn1, hn2, hs, hh⟩ := h
  rw [show tmax T a = T by unfold tmax; split <;> omega, hR] at LV
  have rb : 0 ≤ R ∧ R ≤ l := by rw [← hR]; unfold totF; split <;> omega
  obtain ⟨rb1, rb2⟩ := rb
  obtain ⟨tb1, tb2⟩ := tb
  have hX : v * (T / v + 1) = T / v * v + v := nextF_eq v T
  obtain ⟨q0, q1, q2, q3, q4⟩ := win_bd (show 0 ≤ T by omega) v1
  have e0 : IntKind.i64.wrap (T / v + 1) = T / v + 1 := wrap_i (by omega) (by omega)
  have e1 : IntKind.i64.wrap (v * (T / v + 1)) = v * (T / v + 1) := wrap_i (by omega) (by omega)
  have e2 : IntKind.i64.wrap (v * (T / v + 1) - T) = X := by rw [← hY]; exact wrap_i (by omega) (by omega)
  have e3 : IntKind.i64.wrap (T / v) = T / v := wrap_i (by omega) (by omega)
  have e4 : T.tdiv v = T / v := tdiv_i (by omega)
  have vz : (v == 0) = false := by simp; omega
  have dq : decide (R + m ≤ l) = true := by simp; omega
  have HP := Lib.hid (AskAt.made w k l v b a n (.slice sa sn sc) (.slice ha hn hc))
  clear hp hk hs hh hT hR hX hY
  go_enter Try.func11, Try.ntmps11
  go_wp2_with fail
  refine (MK.out _).mono ?_; rintro e w1 ⟨rfl, hb⟩
  have hp := HP.out.step hb
  have z0 := hp.pc.p0
  have z4 := hp.pc.c0
  have z1 := hp.pc.p1
  have z5 := hp.pc.c1
  have z2 := hp.pc.p2
  have z6 := hp.pc.c2
  have z3 := hp.pc.p3
  have z7 := hp.pc.c3
  have HQ := Lib.hid hp
  clear hp hb HP MK
  go_wp2_with fail
  refine (TK.out _).mono ?_; rintro e w' ⟨rfl, rfl⟩
  go_wp2_with fail
  refine (WK.out _).mono ?_; rintro e w' ⟨rfl, rfl⟩
  go_upto_region 3 with (fail)
  go_cut [2] (fun s2 wx => s2 = .int .i64 T ∧ wx = w1)
  case first =>
    rcases tmm with ⟨q1, q2⟩ | ⟨q1, q2⟩
    · go_upto_region 4 with (fail)
      all_goals (go_meet; exact ⟨by rw [q2], rfl⟩)
    · go_upto_region 4 with (fail)
      all_goals (go_meet; exact ⟨by rw [q2], rfl⟩)
  case rest =>
  obtain ⟨rfl, rfl⟩ := hcut
  clear tmm
  go_wp2_with fail
  refine (LV.out _).mono ?_; rintro e w2 ⟨rfl, hb⟩
  have hp := HQ.out.step hb
  clear z0 z1 z2 z3 z4 z5 z6 z7 HQ LV
  have z0 := hp.pc.p0
  have z4 := hp.pc.c0
  have z1 := hp.pc.p1
  have z5 := hp.pc.c1
  have z2 := hp.pc.p2
  have z6 := hp.pc.c2
  have z3 := hp.pc.p3
  have z7 := hp.pc.c3
  have HF := Lib.hid hp
  clear hp hb
  go_wp2_with fail
  go_quiet (fail)
  have hp := HF.out.drewN nq
  clear z0 z1 z2 z3 z4 z5 z6 z7 HF
  generalize w2.drewN nq = wq at hp ⊢
  clear q0 q1 q2 q3 q4 e0 e1 e2 e3 e4
  have z0 := hp.pc.p0
  have z4 := hp.pc.c0
  have z1 := hp.pc.p1
  have z5 := hp.pc.c1
  have z2 := hp.pc.p2
  have z6 := hp.pc.c2
  have z3 := hp.pc.p3
  have z7 := hp.pc.c3
  obtain ⟨r0, r1, r2, r3, r4, r5, r6, r7, r8, r9⟩ := hp.res
  have HF := Lib.hid hp
  have b3 := hp.rv.lt
  have b0 : w.heap.size < wq.heap.size := by omega
  have b1 : w.heap.size + 1 < wq.heap.size := by omega
  have b2 : w.heap.size + 1 + 1 < wq.heap.size := by omega
  clear hp
  go_wp2_with fail
  have hp := HF.out.alloc (.cells #[.bool true, .int .i64 (l - (R + m)), .int .i64 0, .int .i64 X] 32)
  have hv := Has.made wq 32 [.bool true, .int .i64 (l - (R + m)), .int .i64 0, .int .i64 X]
  replace hv : Has (wq.alloc (.cells #[.bool true, .int .i64 (l - (R + m)), .int .i64 0, .int .i64 X] 32)) wq.heap.size 32 [.bool true, .int .i64 (l - (R + m)), .int .i64 0, .int .i64 X] := hv
  clear z0 z1 z2 z3 z4 z5 z6 z7 r0 r1 r2 r3 r4 r5 r6 r7 r8 r9 HF
  generalize wq.alloc (.cells #[.bool true, .int .i64 (l - (R + m)), .int .i64 0, .int .i64 X] 32) = wz at hp hv ⊢
  generalize wq.heap.size = g at hv b0 b1 b2 b3 ⊢
  have z0 := hp.pc.p0
  have z4 := hp.pc.c0
  have z1 := hp.pc.p1
  have z5 := hp.pc.c1
  have z2 := hp.pc.p2
  have z6 := hp.pc.c2
  have z3 := hp.pc.p3
  have z7 := hp.pc.c3
  obtain ⟨r0, r1, r2, r3, r4, r5, r6, r7, r8, r9⟩ := hp.res
  have y0 := hv.cell 0
  have y1 := hv.cell 1
  have y2 := hv.cell 2
  have y3 := hv.cell 3
  simp at y0 y1 y2 y3
  have g0 : g ≠ w.heap.size + 1 + 1 := by omega
  have g1 : g ≠ w.heap.size + 1 + 1 + 1 := by omega
  have g2 : w.heap.size + 1 + 1 ≠ g := by omega
  have g3 : w.heap.size + 1 + 1 + 1 ≠ g := by omega
  have HF := Lib.hid hp
  clear hp hv
  go_region
  all_goals go_wp2_with fail
  all_goals refine bodyPost_ret (v := .tuple #[.agg #[.int .i64 T, .int .i64 (R + m), .slice none 0 0, .slice none 0 0], .agg #[.bool true, .int .i64 (l - (R + m)), .int .i64 0, .int .i64 X]]) (by simp [results, Try.results11, go_sem, r0, r1, r2, r3, r4, r5, r6, r7]) rfl ⟨rfl, ?_⟩
  all_goals repeat (first | with_reducible exact HF.out.pc.be | with_reducible (refine Below.setCell ?_ (le3 _) _) | with_reducible (refine Below.setCell ?_ (le2 _) _) | with_reducible refine Below.drew ?_)

set_option maxRecDepth 100000 in
set_option maxHeartbeats 4000000 in
theorem rAsk_v0 (k l v b a n t m T R X : Int) (sa ha : Option Addr) (sn sc hn hc : Nat) (w : World) (h : MayG k l v b a n sn hn) (t1 : 0 ≤ t) (t2 : t ≤ 1099511627776) (m1 : 1 ≤ m) (m2 : m ≤ 1048576)
    (hT : tmax t a = T) (hR : totF v a n T = R) (hY : v * (T / v + 1) - T = X) (hq : l < R + m) (hl : l < m) (hz : R ≤ 0) :
    Calls Try.prog 11 #[.agg #[.int .i64 k, .int .i64 l, .int .i64 v, .int .i64 b], .agg #[.int .i64 a, .int .i64 n, .slice sa sn sc, .slice ha hn hc], .int .i64 t, .int .i64 m] w fun e w' => e = .returned (.tuple #[.agg #[.int .i64 T, .int .i64 R, .slice none 0 0, .slice none 0 0], .agg #[.bool false, .int .i64 (l - R), .int .i64 2199023255552, .int .i64 0]]) ∧ Below w.heap.size w w' := by
  have MK := Lib.hid (fun u => rMay_yes k l v b a n sa ha sn sc hn hc u h)
  have TK := Lib.hid (fun u => rTime_yes t u t1 t2)
  have WK := Lib.hid (fun u => rWeighs_yes m u m1 m2)
  obtain ⟨l1, l2, v1, v2⟩ := h.1.lv
  have tb : a ≤ T ∧ T ≤ 1099511627776 := by have := h.2.2.1; rw [← hT]; unfold tmax; split <;> omega
  have tmm : (t < a ∧ T = a) ∨ (a ≤ t ∧ T = t) := by rw [← hT]; unfold tmax; split <;> omega
  have LV := Lib.hid (fun u => rTotal_yes k l v b a n T sa ha sn sc hn hc u h (by have := h.2.2.1; omega) tb.2)
  obtain ⟨hp, hk, ⟨ha1, ha2⟩, hn1, hn2, hs, hh⟩ := h
  rw [show tmax T a = T by unfold tmax; split <;> omega, hR] at LV
  have rb : 0 ≤ R ∧ R ≤ l := by rw [← hR]; unfold totF; split <;> omega
  obtain ⟨rb1, rb2⟩ := rb
  obtain ⟨tb1, tb2⟩ := tb
  have hX : v * (T / v + 1) = T / v * v + v := nextF_eq v T
  obtain ⟨q0, q1, q2, q3, q4⟩ := win_bd (show 0 ≤ T by omega) v1
  have e0 : IntKind.i64.wrap (T / v + 1) = T / v + 1 := wrap_i (by omega) (by omega)
  have e1 : IntKind.i64.wrap (v * (T / v + 1)) = v * (T / v + 1) := wrap_i (by omega) (by omega)
  have e2 : IntKind.i64.wrap (v * (T / v + 1) - T) = X := by rw [← hY]; exact wrap_i (by omega) (by omega)
  have e3 : IntKind.i64.wrap (T / v) = T / v := wrap_i (by omega) (by omega)
  have e4 : T.tdiv v = T / v := tdiv_i (by omega)
  have vz : (v == 0) = false := by simp; omega
  have dq : decide (R + m ≤ l) = false := by simp; omega
  have HP := Lib.hid (AskAt.made w k l v b a n (.slice sa sn sc) (.slice ha hn hc))
  clear hp hk hs hh hT hR hX hY
  go_enter Try.func11, Try.ntmps11
  go_wp2_with fail
  refine (MK.out _).mono ?_; rintro e w1 ⟨rfl, hb⟩
  have hp := HP.out.step hb
  have z0 := hp.pc.p0
  have z4 := hp.pc.c0
  have z1 := hp.pc.p1
  have z5 := hp.pc.c1
  have z2 := hp.pc.p2
  have z6 := hp.pc.c2
  have z3 := hp.pc.p3
  have z7 := hp.pc.c3
  have HQ := Lib.hid hp
  clear hp hb HP MK
  go_wp2_with fail
  refine (TK.out _).mono ?_; rintro e w' ⟨rfl, rfl⟩
  go_wp2_with fail
  refine (WK.out _).mono ?_; rintro e w' ⟨rfl, rfl⟩
  go_upto_region 3 with (fail)
  go_cut [2] (fun s2 wx => s2 = .int .i64 T ∧ wx = w1)
  case first =>
    rcases tmm with ⟨q1, q2⟩ | ⟨q1, q2⟩
    · go_upto_region 4 with (fail)
      all_goals (go_meet; exact ⟨by rw [q2], rfl⟩)
    · go_upto_region 4 with (fail)
      all_goals (go_meet; exact ⟨by rw [q2], rfl⟩)
  case rest =>
  obtain ⟨rfl, rfl⟩ := hcut
  clear tmm
  go_wp2_with fail
  refine (LV.out _).mono ?_; rintro e w2 ⟨rfl, hb⟩
  have hp := HQ.out.step hb
  clear z0 z1 z2 z3 z4 z5 z6 z7 HQ LV
  have z0 := hp.pc.p0
  have z4 := hp.pc.c0
  have z1 := hp.pc.p1
  have z5 := hp.pc.c1
  have z2 := hp.pc.p2
  have z6 := hp.pc.c2
  have z3 := hp.pc.p3
  have z7 := hp.pc.c3
  have HF := Lib.hid hp
  clear hp hb
  go_wp2_with fail
  go_quiet (fail)
  have hp := HF.out.drewN nq
  clear z0 z1 z2 z3 z4 z5 z6 z7 HF
  generalize w2.drewN nq = wq at hp ⊢
  clear q0 q1 q2 q3 q4 e0 e1 e2 e3 e4
  have z0 := hp.pc.p0
  have z4 := hp.pc.c0
  have z1 := hp.pc.p1
  have z5 := hp.pc.c1
  have z2 := hp.pc.p2
  have z6 := hp.pc.c2
  have z3 := hp.pc.p3
  have z7 := hp.pc.c3
  obtain ⟨r0, r1, r2, r3, r4, r5, r6, r7, r8, r9⟩ := hp.res
  have HF := Lib.hid hp
  have b3 := hp.rv.lt
  have b0 : w.heap.size < wq.heap.size := by omega
  have b1 : w.heap.size + 1 < wq.heap.size := by omega
  have b2 : w.heap.size + 1 + 1 < wq.heap.size := by omega
  clear hp
  go_wp2_with fail
  have hp := HF.out.alloc (.cells #[.bool false, .int .i64 (l - R), .int .i64 2199023255552, .int .i64 0] 32)
  have hv := Has.made wq 32 [.bool false, .int .i64 (l - R), .int .i64 2199023255552, .int .i64 0]
  replace hv : Has (wq.alloc (.cells #[.bool false, .int .i64 (l - R), .int .i64 2199023255552, .int .i64 0] 32)) wq.heap.size 32 [.bool false, .int .i64 (l - R), .int .i64 2199023255552, .int .i64 0] := hv
  clear z0 z1 z2 z3 z4 z5 z6 z7 r0 r1 r2 r3 r4 r5 r6 r7 r8 r9 HF
  generalize wq.alloc (.cells #[.bool false, .int .i64 (l - R), .int .i64 2199023255552, .int .i64 0] 32) = wz at hp hv ⊢
  generalize wq.heap.size = g at hv b0 b1 b2 b3 ⊢
  have z0 := hp.pc.p0
  have z4 := hp.pc.c0
  have z1 := hp.pc.p1
  have z5 := hp.pc.c1
  have z2 := hp.pc.p2
  have z6 := hp.pc.c2
  have z3 := hp.pc.p3
  have z7 := hp.pc.c3
  obtain ⟨r0, r1, r2, r3, r4, r5, r6, r7, r8, r9⟩ := hp.res
  have y0 := hv.cell 0
  have y1 := hv.cell 1
  have y2 := hv.cell 2
  have y3 := hv.cell 3
  simp at y0 y1 y2 y3
  have g0 : g ≠ w.heap.size + 1 + 1 := by omega
  have g1 : g ≠ w.heap.size + 1 + 1 + 1 := by omega
  have g2 : w.heap.size + 1 + 1 ≠ g := by omega
  have g3 : w.heap.size + 1 + 1 + 1 ≠ g := by omega
  have HF := Lib.hid hp
  clear hp hv
  go_region
  all_goals go_wp2_with fail
  all_goals refine bodyPost_ret (v := .tuple #[.agg #[.int .i64 T, .int .i64 R, .slice none 0 0, .slice none 0 0], .agg #[.bool false, .int .i64 (l - R), .int .i64 2199023255552, .int .i64 0]]) (by simp [results, Try.results11, go_sem, r0, r1, r2, r3, r4, r5, r6, r7]) rfl ⟨rfl, ?_⟩
  all_goals repeat (first | with_reducible exact HF.out.pc.be | with_reducible (refine Below.setCell ?_ (le3 _) _) | with_reducible (refine Below.setCell ?_ (le2 _) _) | with_reducible refine Below.drew ?_)

set_option maxRecDepth 100000 in
set_option maxHeartbeats 4000000 in
theorem rAsk_v1 (k l v b a n t m T R X : Int) (sa ha : Option Addr) (sn sc hn hc : Nat) (w : World) (h : MayG k l v b a n sn hn) (t1 : 0 ≤ t) (t2 : t ≤ 1099511627776) (m1 : 1 ≤ m) (m2 : m ≤ 1048576)
    (hT : tmax t a = T) (hR : totF v a n T = R) (hY : v * (T / v + 1) - T = X) (hq : l < R + m) (hl : l < m) (hz : 0 < R) :
    Calls Try.prog 11 #[.agg #[.int .i64 k, .int .i64 l, .int .i64 v, .int .i64 b], .agg #[.int .i64 a, .int .i64 n, .slice sa sn sc, .slice ha hn hc], .int .i64 t, .int .i64 m] w fun e w' => e = .returned (.tuple #[.agg #[.int .i64 T, .int .i64 R, .slice none 0 0, .slice none 0 0], .agg #[.bool false, .int .i64 (l - R), .int .i64 2199023255552, .int .i64 X]]) ∧ Below w.heap.size w w' := by
  have MK := Lib.hid (fun u => rMay_yes k l v b a n sa ha sn sc hn hc u h)
  have TK := Lib.hid (fun u => rTime_yes t u t1 t2)
  have WK := Lib.hid (fun u => rWeighs_yes m u m1 m2)
  obtain ⟨l1, l2, v1, v2⟩ := h.1.lv
  have tb : a ≤ T ∧ T ≤ 1099511627776 := by have := h.2.2.1; rw [← hT]; unfold tmax; split <;> omega
  have tmm : (t < a ∧ T = a) ∨ (a ≤ t ∧ T = t) := by rw [← hT]; unfold tmax; split <;> omega
  have LV := Lib.hid (fun u => rTotal_yes k l v b a n T sa ha sn sc hn hc u h (by have := h.2.2.1; omega) tb.2)
  obtain ⟨hp, hk, ⟨ha1, ha2⟩, hn1, hn2, hs, hh⟩ := h
  rw [show tmax T a = T by unfold tmax; split <;> omega, hR] at LV
  have rb : 0 ≤ R ∧ R ≤ l := by rw [← hR]; unfold totF; split <;> omega
  obtain ⟨rb1, rb2⟩ := rb
  obtain ⟨tb1, tb2⟩ := tb
  have hX : v * (T / v + 1) = T / v * v + v := nextF_eq v T
  obtain ⟨q0, q1, q2, q3, q4⟩ := win_bd (show 0 ≤ T by omega) v1
  have e0 : IntKind.i64.wrap (T / v + 1) = T / v + 1 := wrap_i (by omega) (by omega)
  have e1 : IntKind.i64.wrap (v * (T / v + 1)) = v * (T / v + 1) := wrap_i (by omega) (by omega)
  have e2 : IntKind.i64.wrap (v * (T / v + 1) - T) = X := by rw [← hY]; exact wrap_i (by omega) (by omega)
  have e3 : IntKind.i64.wrap (T / v) = T / v := wrap_i (by omega) (by omega)
  have e4 : T.tdiv v = T / v := tdiv_i (by omega)
  have vz : (v == 0) = false := by simp; omega
  have dq : decide (R + m ≤ l) = false := by simp; omega
  have HP := Lib.hid (AskAt.made w k l v b a n (.slice sa sn sc) (.slice ha hn hc))
  clear hp hk hs hh hT hR hX hY
  go_enter Try.func11, Try.ntmps11
  go_wp2_with fail
  refine (MK.out _).mono ?_; rintro e w1 ⟨rfl, hb⟩
  have hp := HP.out.step hb
  have z0 := hp.pc.p0
  have z4 := hp.pc.c0
  have z1 := hp.pc.p1
  have z5 := hp.pc.c1
  have z2 := hp.pc.p2
  have z6 := hp.pc.c2
  have z3 := hp.pc.p3
  have z7 := hp.pc.c3
  have HQ := Lib.hid hp
  clear hp hb HP MK
  go_wp2_with fail
  refine (TK.out _).mono ?_; rintro e w' ⟨rfl, rfl⟩
  go_wp2_with fail
  refine (WK.out _).mono ?_; rintro e w' ⟨rfl, rfl⟩
  go_upto_region 3 with (fail)
  go_cut [2] (fun s2 wx => s2 = .int .i64 T ∧ wx = w1)
  case first =>
    rcases tmm with ⟨q1, q2⟩ | ⟨q1, q2⟩
    · go_upto_region 4 with (fail)
      all_goals (go_meet; exact ⟨by rw [q2], rfl⟩)
    · go_upto_region 4 with (fail)
      all_goals (go_meet; exact ⟨by rw [q2], rfl⟩)
  case rest =>
  obtain ⟨rfl, rfl⟩ := hcut
  clear tmm
  go_wp2_with fail
  refine (LV.out _).mono ?_; rintro e w2 ⟨rfl, hb⟩
  have hp := HQ.out.step hb
  clear z0 z1 z2 z3 z4 z5 z6 z7 HQ LV
  have z0 := hp.pc.p0
  have z4 := hp.pc.c0
  have z1 := hp.pc.p1
  have z5 := hp.pc.c1
  have z2 := hp.pc.p2
  have z6 := hp.pc.c2
  have z3 := hp.pc.p3
  have z7 := hp.pc.c3
  have HF := Lib.hid hp
  clear hp hb
  go_wp2_with fail
  go_quiet (fail)
  have hp := HF.out.drewN nq
  clear z0 z1 z2 z3 z4 z5 z6 z7 HF
  generalize w2.drewN nq = wq at hp ⊢
  clear q0 q1 q2 q3 q4 e0 e1 e2 e3 e4
  have z0 := hp.pc.p0
  have z4 := hp.pc.c0
  have z1 := hp.pc.p1
  have z5 := hp.pc.c1
  have z2 := hp.pc.p2
  have z6 := hp.pc.c2
  have z3 := hp.pc.p3
  have z7 := hp.pc.c3
  obtain ⟨r0, r1, r2, r3, r4, r5, r6, r7, r8, r9⟩ := hp.res
  have HF := Lib.hid hp
  have b3 := hp.rv.lt
  have b0 : w.heap.size < wq.heap.size := by omega
  have b1 : w.heap.size + 1 < wq.heap.size := by omega
  have b2 : w.heap.size + 1 + 1 < wq.heap.size := by omega
  clear hp
  go_wp2_with fail
  have hp := HF.out.alloc (.cells #[.bool false, .int .i64 (l - R), .int .i64 2199023255552, .int .i64 X] 32)
  have hv := Has.made wq 32 [.bool false, .int .i64 (l - R), .int .i64 2199023255552, .int .i64 X]
  replace hv : Has (wq.alloc (.cells #[.bool false, .int .i64 (l - R), .int .i64 2199023255552, .int .i64 X] 32)) wq.heap.size 32 [.bool false, .int .i64 (l - R), .int .i64 2199023255552, .int .i64 X] := hv
  clear z0 z1 z2 z3 z4 z5 z6 z7 r0 r1 r2 r3 r4 r5 r6 r7 r8 r9 HF
  generalize wq.alloc (.cells #[.bool false, .int .i64 (l - R), .int .i64 2199023255552, .int .i64 X] 32) = wz at hp hv ⊢
  generalize wq.heap.size = g at hv b0 b1 b2 b3 ⊢
  have z0 := hp.pc.p0
  have z4 := hp.pc.c0
  have z1 := hp.pc.p1
  have z5 := hp.pc.c1
  have z2 := hp.pc.p2
  have z6 := hp.pc.c2
  have z3 := hp.pc.p3
  have z7 := hp.pc.c3
  obtain ⟨r0, r1, r2, r3, r4, r5, r6, r7, r8, r9⟩ := hp.res
  have y0 := hv.cell 0
  have y1 := hv.cell 1
  have y2 := hv.cell 2
  have y3 := hv.cell 3
  simp at y0 y1 y2 y3
  have g0 : g ≠ w.heap.size + 1 + 1 := by omega
  have g1 : g ≠ w.heap.size + 1 + 1 + 1 := by omega
  have g2 : w.heap.size + 1 + 1 ≠ g := by omega
  have g3 : w.heap.size + 1 + 1 + 1 ≠ g := by omega
  have HF := Lib.hid hp
  clear hp hv
  go_region
  all_goals go_wp2_with fail
  all_goals refine bodyPost_ret (v := .tuple #[.agg #[.int .i64 T, .int .i64 R, .slice none 0 0, .slice none 0 0], .agg #[.bool false, .int .i64 (l - R), .int .i64 2199023255552, .int .i64 X]]) (by simp [results, Try.results11, go_sem, r0, r1, r2, r3, r4, r5, r6, r7]) rfl ⟨rfl, ?_⟩
  all_goals repeat (first | with_reducible exact HF.out.pc.be | with_reducible (refine Below.setCell ?_ (le3 _) _) | with_reducible (refine Below.setCell ?_ (le2 _) _) | with_reducible refine Below.drew ?_)

set_option maxRecDepth 100000 in
set_option maxHeartbeats 4000000 in
theorem rAsk_re (k l v b a n t m T R X : Int) (sa ha : Option Addr) (sn sc hn hc : Nat) (w : World) (h : MayG k l v b a n sn hn) (t1 : 0 ≤ t) (t2 : t ≤ 1099511627776) (m1 : 1 ≤ m) (m2 : m ≤ 1048576)
    (hT : tmax t a = T) (hR : totF v a n T = R) (hY : v * (T / v + 1) - T = X) (hq : l < R + m) (hl : m ≤ l) :
    Calls Try.prog 11 #[.agg #[.int .i64 k, .int .i64 l, .int .i64 v, .int .i64 b], .agg #[.int .i64 a, .int .i64 n, .slice sa sn sc, .slice ha hn hc], .int .i64 t, .int .i64 m] w fun e w' => e = .returned (.tuple #[.agg #[.int .i64 T, .int .i64 R, .slice none 0 0, .slice none 0 0], .agg #[.bool false, .int .i64 (l - R), .int .i64 X, .int .i64 X]]) ∧ Below w.heap.size w w' := by
  have MK := Lib.hid (fun u => rMay_yes k l v b a n sa ha sn sc hn hc u h)
  have TK := Lib.hid (fun u => rTime_yes t u t1 t2)
  have WK := Lib.hid (fun u => rWeighs_yes m u m1 m2)
  obtain ⟨l1, l2, v1, v2⟩ := h.1.lv
  have tb : a ≤ T ∧ T ≤ 1099511627776 := by have := h.2.2.1; rw [← hT]; unfold tmax; split <;> omega
  have tmm : (t < a ∧ T = a) ∨ (a ≤ t ∧ T = t) := by rw [← hT]; unfold tmax; split <;> omega
  have LV := Lib.hid (fun u => rTotal_yes k l v b a n T sa ha sn sc hn hc u h (by have := h.2.2.1; omega) tb.2)
  obtain ⟨hp, hk, ⟨ha1, ha2⟩, hn1, hn2, hs, hh⟩ := h
  rw [show tmax T a = T by unfold tmax; split <;> omega, hR] at LV
  have rb : 0 ≤ R ∧ R ≤ l := by rw [← hR]; unfold totF; split <;> omega
  obtain ⟨rb1, rb2⟩ := rb
  obtain ⟨tb1, tb2⟩ := tb
  have hX : v * (T / v + 1) = T / v * v + v := nextF_eq v T
  obtain ⟨q0, q1, q2, q3, q4⟩ := win_bd (show 0 ≤ T by omega) v1
  have e0 : IntKind.i64.wrap (T / v + 1) = T / v + 1 := wrap_i (by omega) (by omega)
  have e1 : IntKind.i64.wrap (v * (T / v + 1)) = v * (T / v + 1) := wrap_i (by omega) (by omega)
  have e2 : IntKind.i64.wrap (v * (T / v + 1) - T) = X := by rw [← hY]; exact wrap_i (by omega) (by omega)
  have e3 : IntKind.i64.wrap (T / v) = T / v := wrap_i (by omega) (by omega)
  have e4 : T.tdiv v = T / v := tdiv_i (by omega)
  have vz : (v == 0) = false := by simp; omega
  have dq : decide (R + m ≤ l) = false := by simp; omega
  have HP := Lib.hid (AskAt.made w k l v b a n (.slice sa sn sc) (.slice ha hn hc))
  clear hp hk hs hh hT hR hX hY
  go_enter Try.func11, Try.ntmps11
  go_wp2_with fail
  refine (MK.out _).mono ?_; rintro e w1 ⟨rfl, hb⟩
  have hp := HP.out.step hb
  have z0 := hp.pc.p0
  have z4 := hp.pc.c0
  have z1 := hp.pc.p1
  have z5 := hp.pc.c1
  have z2 := hp.pc.p2
  have z6 := hp.pc.c2
  have z3 := hp.pc.p3
  have z7 := hp.pc.c3
  have HQ := Lib.hid hp
  clear hp hb HP MK
  go_wp2_with fail
  refine (TK.out _).mono ?_; rintro e w' ⟨rfl, rfl⟩
  go_wp2_with fail
  refine (WK.out _).mono ?_; rintro e w' ⟨rfl, rfl⟩
  go_upto_region 3 with (fail)
  go_cut [2] (fun s2 wx => s2 = .int .i64 T ∧ wx = w1)
  case first =>
    rcases tmm with ⟨q1, q2⟩ | ⟨q1, q2⟩
    · go_upto_region 4 with (fail)
      all_goals (go_meet; exact ⟨by rw [q2], rfl⟩)
    · go_upto_region 4 with (fail)
      all_goals (go_meet; exact ⟨by rw [q2], rfl⟩)
  case rest =>
  obtain ⟨rfl, rfl⟩ := hcut
  clear tmm
  go_wp2_with fail
  refine (LV.out _).mono ?_; rintro e w2 ⟨rfl, hb⟩
  have hp := HQ.out.step hb
  clear z0 z1 z2 z3 z4 z5 z6 z7 HQ LV
  have z0 := hp.pc.p0
  have z4 := hp.pc.c0
  have z1 := hp.pc.p1
  have z5 := hp.pc.c1
  have z2 := hp.pc.p2
  have z6 := hp.pc.c2
  have z3 := hp.pc.p3
  have z7 := hp.pc.c3
  have HF := Lib.hid hp
  clear hp hb
  go_wp2_with fail
  go_quiet (fail)
  have hp := HF.out.drewN nq
  clear z0 z1 z2 z3 z4 z5 z6 z7 HF
  generalize w2.drewN nq = wq at hp ⊢
  clear q0 q1 q2 q3 q4 e0 e1 e2 e3 e4
  have z0 := hp.pc.p0
  have z4 := hp.pc.c0
  have z1 := hp.pc.p1
  have z5 := hp.pc.c1
  have z2 := hp.pc.p2
  have z6 := hp.pc.c2
  have z3 := hp.pc.p3
  have z7 := hp.pc.c3
  obtain ⟨r0, r1, r2, r3, r4, r5, r6, r7, r8, r9⟩ := hp.res
  have HF := Lib.hid hp
  have b3 := hp.rv.lt
  have b0 : w.heap.size < wq.heap.size := by omega
  have b1 : w.heap.size + 1 < wq.heap.size := by omega
  have b2 : w.heap.size + 1 + 1 < wq.heap.size := by omega
  clear hp
  go_wp2_with fail
  have hp := HF.out.alloc (.cells #[.bool false, .int .i64 (l - R), .int .i64 X, .int .i64 X] 32)
  have hv := Has.made wq 32 [.bool false, .int .i64 (l - R), .int .i64 X, .int .i64 X]
  replace hv : Has (wq.alloc (.cells #[.bool false, .int .i64 (l - R), .int .i64 X, .int .i64 X] 32)) wq.heap.size 32 [.bool false, .int .i64 (l - R), .int .i64 X, .int .i64 X] := hv
  clear z0 z1 z2 z3 z4 z5 z6 z7 r0 r1 r2 r3 r4 r5 r6 r7 r8 r9 HF
  generalize wq.alloc (.cells #[.bool false, .int .i64 (l - R), .int .i64 X, .int .i64 X] 32) = wz at hp hv ⊢
  generalize wq.heap.size = g at hv b0 b1 b2 b3 ⊢
  have z0 := hp.pc.p0
  have z4 := hp.pc.c0
  have z1 := hp.pc.p1
  have z5 := hp.pc.c1
  have z2 := hp.pc.p2
  have z6 := hp.pc.c2
  have z3 := hp.pc.p3
  have z7 := hp.pc.c3
  obtain ⟨r0, r1, r2, r3, r4, r5, r6, r7, r8, r9⟩ := hp.res
  have y0 := hv.cell 0
  have y1 := hv.cell 1
  have y2 := hv.cell 2
  have y3 := hv.cell 3
  simp at y0 y1 y2 y3
  have g0 : g ≠ w.heap.size + 1 + 1 := by omega
  have g1 : g ≠ w.heap.size + 1 + 1 + 1 := by omega
  have g2 : w.heap.size + 1 + 1 ≠ g := by omega
  have g3 : w.heap.size + 1 + 1 + 1 ≠ g := by omega
  have HF := Lib.hid hp
  clear hp hv
  go_region
  all_goals go_wp2_with fail
  all_goals refine bodyPost_ret (v := .tuple #[.agg #[.int .i64 T, .int .i64 R, .slice none 0 0, .slice none 0 0], .agg #[.bool false, .int .i64 (l - R), .int .i64 X, .int .i64 X]]) (by simp [results, Try.results11, go_sem, r0, r1, r2, r3, r4, r5, r6, r7]) rfl ⟨rfl, ?_⟩
  all_goals repeat (first | with_reducible exact HF.out.pc.be | with_reducible (refine Below.setCell ?_ (le3 _) _) | with_reducible (refine Below.setCell ?_ (le2 _) _) | with_reducible refine Below.drew ?_)
end Go.Proofs.Ytdmephlappmmdab
