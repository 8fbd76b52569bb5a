/- For every policy, every cell and every two numbers the law FixedEnds returns true: from its end on a cell is as one that is new. No condition. -/
import Derived.Test.YtdmephlappmmdabRows
import Derived.Test.YtdmephlappmmdabFxLive
import Derived.Test.YtdmephlappmmdabFx7
import Derived.Test.YtdmephlappmmdabGcOpen
namespace Go.Proofs.Ytdmephlappmmdab.fixedEnds
open Go.ChangeShapes Go.WideShapes Go.ChangeAt Go.RowKit
set_option linter.unusedVariables false

/-- The policy, the cell and the numbers, in three blocks. -/
structure At (w0 : World) (k l v b a n t m : Int) (x y : Value) (w : World) : Prop where
  p : Has w w0.heap.size 23 [.int .i64 k, .int .i64 l, .int .i64 v, .int .i64 b]
  c : Has w (w0.heap.size + 1) 27 [.int .i64 a, .int .i64 n, x, y]
  n : Has w (w0.heap.size + 1 + 1) 28 [.int .i64 t, .int .i64 m]
  be : Below w0.heap.size w0 w
theorem At.made (w : World) (k l v b a n t m : Int) (x y : Value) : At w k l v b a n t m x y (((w.alloc (.cells #[.int .i64 k, .int .i64 l, .int .i64 v, .int .i64 b] 23)).alloc (.cells #[.int .i64 a, .int .i64 n, x, y] 27)).alloc (.cells #[.int .i64 t, .int .i64 m] 28)) := by
  refine ⟨((Has.made w 23 [.int .i64 k, .int .i64 l, .int .i64 v, .int .i64 b]).alloc _).alloc _, Has.alloc ?_ _, ?_, (((Below.refl _ _).alloc (Nat.le_refl _) _).alloc (by simp) _).alloc (by simp; omega) _⟩
  · have := Has.made (w.alloc (.cells #[.int .i64 k, .int .i64 l, .int .i64 v, .int .i64 b] 23)) 27 [.int .i64 a, .int .i64 n, x, y]
    simpa using this
  · have := Has.made ((w.alloc (.cells #[.int .i64 k, .int .i64 l, .int .i64 v, .int .i64 b] 23)).alloc (.cells #[.int .i64 a, .int .i64 n, x, y] 27)) 28 [.int .i64 t, .int .i64 m]
    simpa using this
theorem At.step {w0 w w' : World} {k l v b a n t m : Int} {x y : Value} (h : At w0 k l v b a n t m x y w) (hb : Below w.heap.size w w') : At w0 k l v b a n t m x y w' :=
  ⟨h.p.step hb, h.c.step hb, h.n.step hb, h.be.trans (hb.mono h.be.size)⟩
theorem At.two {w0 w : World} {k l v b a n t m : Int} {x y : Value} (h : At w0 k l v b a n t m x y w) (o o' : Obj) : At w0 k l v b a n t m x y ((w.alloc o).alloc o') :=
  (h.step ((Below.refl _ _).alloc (Nat.le_refl _) o)).step ((Below.refl _ _).alloc (Nat.le_refl _) o')
theorem At.cells {w0 w : World} {k l v b a n t m : Int} {x y : Value} (h : At w0 k l v b a n t m x y w) :
    (w.cell? ⟨w0.heap.size, 0, none⟩ = some (.int .i64 k) ∧ w.cell? ⟨w0.heap.size, 1, none⟩ = some (.int .i64 l) ∧ w.cell? ⟨w0.heap.size, 2, none⟩ = some (.int .i64 v) ∧ w.cell? ⟨w0.heap.size, 3, none⟩ = some (.int .i64 b)) ∧
    (w.cell? ⟨w0.heap.size + 1, 0, none⟩ = some (.int .i64 a) ∧ w.cell? ⟨w0.heap.size + 1, 1, none⟩ = some (.int .i64 n) ∧ w.cell? ⟨w0.heap.size + 1, 2, none⟩ = some x ∧ w.cell? ⟨w0.heap.size + 1, 3, none⟩ = some y) ∧
    (w.cell? ⟨w0.heap.size + 1 + 1, 0, none⟩ = some (.int .i64 t) ∧ w.cell? ⟨w0.heap.size + 1 + 1, 1, none⟩ = some (.int .i64 m)) :=
  ⟨h.p.four, h.c.four, h.n.cell 0, h.n.cell 1⟩
set_option maxRecDepth 100000 in
theorem Same_e (a n : Int) (sa ha sa' ha' : Option Addr) (sc hc sc' hc' : Nat) (w : World) : Calls Try.prog 12 #[.agg #[.int .i64 a, .int .i64 n, .slice sa 0 sc, .slice ha 0 hc], .agg #[.int .i64 a, .int .i64 n, .slice sa' 0 sc', .slice ha' 0 hc']] w fun e w' => e = .returned (.bool true) ∧ Below w.heap.size w w' := by
  go_enter Try.func12, Try.ntmps12
  go_wp2_with fail
  refine wp_loop_rounds 1 ?_
  rw [rounds_succ]
  go_wp2_with fail
  refine wp_loop_rounds 1 ?_
  rw [rounds_succ]
  go_wp2_with fail
  go_ret
  exact ⟨rfl, ((Below.refl _ _).alloc (Nat.le_refl _) _).alloc (by simp) _⟩

set_option maxRecDepth 100000 in
set_option maxHeartbeats 4000000 in
theorem n0 (k l v b a n t m : Int) (sa ha : Option Addr) (sn sc hn hc : Nat) (W : World) (h : ¬ (sn ≤ 40 ∧ hn ≤ 40)) (q1 : sn ≤ maxLen) (q2 : hn ≤ maxLen) :
    Calls Try.prog 5 #[.agg #[.int .i64 k, .int .i64 l, .int .i64 v, .int .i64 b], .agg #[.int .i64 a, .int .i64 n, .slice sa sn sc, .slice ha hn hc], .agg #[.int .i64 t, .int .i64 m]] W fun e w' => e = .returned (.bool true) ∧ Below W.heap.size W w' := by
  have A0 := Lib.hid (At.made W k l v b a n t m (.slice sa sn sc) (.slice ha hn hc))
  have FW := Lib.hid (fun u => Few_no a n sa ha sn sc hn hc u h q1 q2)
  clear h q1 q2
  go_enter Try.func5, Try.ntmps5
  go_wp2_with fail
  refine (FW.out _).mono ?_; rintro e w1 ⟨rfl, hb⟩
  have A1 := Lib.hid (A0.out.step hb)
  clear hb A0
  go_wp2_with fail
  refine (live_any _).mono ?_; rintro e wl ⟨rfl, hb⟩
  have AL := Lib.hid (A1.out.step hb)
  clear hb
  go_wp2_with fail
  go_ret
  exact ⟨rfl, AL.out.be⟩

set_option maxRecDepth 100000 in
set_option maxHeartbeats 4000000 in
theorem n1 (k l v b a n t m : Int) (sa ha : Option Addr) (sn sc hn hc : Nat) (W : World) (f1 : sn ≤ 40) (f2 : hn ≤ 40) (h : ¬ MayG k l v b a n sn hn) :
    Calls Try.prog 5 #[.agg #[.int .i64 k, .int .i64 l, .int .i64 v, .int .i64 b], .agg #[.int .i64 a, .int .i64 n, .slice sa sn sc, .slice ha hn hc], .agg #[.int .i64 t, .int .i64 m]] W fun e w' => e = .returned (.bool true) ∧ Below W.heap.size W w' := by
  have A0 := Lib.hid (At.made W k l v b a n t m (.slice sa sn sc) (.slice ha hn hc))
  have FW := Lib.hid (fun u => Few_yes a n sa ha sn sc hn hc u f1 f2)
  have MK := Lib.hid (fun u => rMay_no k l v b a n sa ha sn sc hn hc u h)
  clear h f1 f2
  go_enter Try.func5, Try.ntmps5
  go_wp2_with fail
  refine (FW.out _).mono ?_; rintro e w1 ⟨rfl, hb⟩
  have A1 := Lib.hid (A0.out.step hb)
  clear hb A0
  obtain ⟨⟨j0, j1, j2, j3⟩, ⟨j4, j5, j6, j7⟩, j8, j9⟩ := A1.out.cells
  go_wp2_with fail
  refine (MK.out _).mono ?_; rintro e w2 ⟨rfl, hb⟩
  clear j0 j1 j2 j3 j4 j5 j6 j7 j8 j9
  have A2 := Lib.hid (A1.out.step hb)
  clear hb A1
  go_wp2_with fail
  refine (live_any _).mono ?_; rintro e wl ⟨rfl, hb⟩
  have AL := Lib.hid (A2.out.step hb)
  clear hb
  go_wp2_with fail
  go_ret
  exact ⟨rfl, AL.out.be⟩

set_option maxRecDepth 100000 in
set_option maxHeartbeats 4000000 in
theorem n2 (k l v b a n t m : Int) (sa ha : Option Addr) (sn sc hn hc : Nat) (W : World) (f1 : sn ≤ 40) (f2 : hn ≤ 40) (h : MayG k l v b a n sn hn) (ht : ¬ (0 ≤ t ∧ t ≤ 274877906944 ∧ a ≤ 274877906944)) :
    Calls Try.prog 5 #[.agg #[.int .i64 k, .int .i64 l, .int .i64 v, .int .i64 b], .agg #[.int .i64 a, .int .i64 n, .slice sa sn sc, .slice ha hn hc], .agg #[.int .i64 t, .int .i64 m]] W fun e w' => e = .returned (.bool true) ∧ Below W.heap.size W w' := by
  have A0 := Lib.hid (At.made W k l v b a n t m (.slice sa sn sc) (.slice ha hn hc))
  have FW := Lib.hid (fun u => Few_yes a n sa ha sn sc hn hc u f1 f2)
  have MK := Lib.hid (fun u => rMay_yes k l v b a n sa ha sn sc hn hc u h)
  clear h f1 f2
  go_enter Try.func5, Try.ntmps5
  go_wp2_with fail
  refine (FW.out _).mono ?_; rintro e w1 ⟨rfl, hb⟩
  have A1 := Lib.hid (A0.out.step hb)
  clear hb A0
  obtain ⟨⟨j0, j1, j2, j3⟩, ⟨j4, j5, j6, j7⟩, j8, j9⟩ := A1.out.cells
  go_wp2_with fail
  refine (MK.out _).mono ?_; rintro e w2 ⟨rfl, hb⟩
  clear j0 j1 j2 j3 j4 j5 j6 j7 j8 j9
  have A2 := Lib.hid (A1.out.step hb)
  clear hb A1
  obtain ⟨⟨j0, j1, j2, j3⟩, ⟨j4, j5, j6, j7⟩, j8, j9⟩ := A2.out.cells
  by_cases ht0 : t < 0
  · clear ht
    go_wp2_with fail
    refine (live_any _).mono ?_; rintro e wl ⟨rfl, hb⟩
    have AL := Lib.hid (A2.out.step hb)
    clear hb
    go_wp2_with fail
    go_ret
    exact ⟨rfl, AL.out.be⟩
  · by_cases ht1 : 274877906944 < t
    · clear ht
      go_wp2_with fail
      refine (live_any _).mono ?_; rintro e wl ⟨rfl, hb⟩
      have AL := Lib.hid (A2.out.step hb)
      clear hb
      go_wp2_with fail
      go_ret
      exact ⟨rfl, AL.out.be⟩
    · have ht2 : 274877906944 < a := by omega
      clear ht
      go_wp2_with fail
      refine (live_any _).mono ?_; rintro e wl ⟨rfl, hb⟩
      have AL := Lib.hid (A2.out.step hb)
      clear hb
      go_wp2_with fail
      go_ret
      exact ⟨rfl, AL.out.be⟩

set_option maxRecDepth 100000 in
set_option maxHeartbeats 4000000 in
theorem w_no (k l v b a n t m : Int) (sa ha : Option Addr) (sc hc : Nat) (W : World) (h : MayG k l v b a n 0 0) (t1 : 0 ≤ t) (t2 : t ≤ 274877906944) (a2 : a ≤ 274877906944) (hm : ¬ (1 ≤ m ∧ m ≤ 1048576)) :
    Calls Try.prog 5 #[.agg #[.int .i64 k, .int .i64 l, .int .i64 v, .int .i64 b], .agg #[.int .i64 a, .int .i64 n, .slice sa 0 sc, .slice ha 0 hc], .agg #[.int .i64 t, .int .i64 m]] W fun e w' => e = .returned (.bool true) ∧ Below W.heap.size W w' := by
  have A0 := Lib.hid (At.made W k l v b a n t m (.slice sa 0 sc) (.slice ha 0 hc))
  have FW := Lib.hid (fun u => Few_yes a n sa ha 0 sc 0 hc u (by decide) (by decide))
  have MK := Lib.hid (fun u => rMay_yes k l v b a n sa ha 0 sc 0 hc u h)
  have EN := Lib.hid (fun u => Ends_yes k l v b a n sa ha 0 sc 0 hc u h)
  obtain ⟨l1, l2, v1, v2⟩ := h.1.lv
  have a1 := h.2.2.1.1
  obtain ⟨u0, ul⟩ := end_bd (n := n) a1 v1
  have WK := Lib.hid (fun u => rWeighs_no m u hm)
  have K1 := Lib.hid (fun u => Ask_no k l v b a n (endF v a n + t) m sa ha 0 sc 0 hc u (fun q => hm q.2.2))
  have K2 := Lib.hid (fun u => Ask_no k l v b (endF v a n + t) 0 (endF v a n + t) m none none 0 0 0 0 u (fun q => hm q.2.2))
  have SA := Lib.hid (fun u => Same_e a n sa ha sa ha sc hc sc hc u)
  clear h hm
  generalize endF v a n = U at *
  skip
  go_enter Try.func5, Try.ntmps5
  go_wp2_with fail
  refine (FW.out _).mono ?_; rintro e w1 ⟨rfl, hb⟩
  have A1 := Lib.hid (A0.out.step hb)
  clear hb A0
  obtain ⟨⟨j0, j1, j2, j3⟩, ⟨j4, j5, j6, j7⟩, j8, j9⟩ := A1.out.cells
  go_wp2_with fail
  refine (MK.out _).mono ?_; rintro e w2 ⟨rfl, hb⟩
  clear j0 j1 j2 j3 j4 j5 j6 j7 j8 j9
  have A2 := Lib.hid (A1.out.step hb)
  clear hb A1
  obtain ⟨⟨j0, j1, j2, j3⟩, ⟨j4, j5, j6, j7⟩, j8, j9⟩ := A2.out.cells
  go_wp2_with fail
  refine (EN.out _).mono ?_; rintro e w3 ⟨rfl, hb⟩
  clear j0 j1 j2 j3 j4 j5 j6 j7 j8 j9
  have A3 := Lib.hid (A2.out.step hb)
  clear hb A2
  obtain ⟨⟨j0, j1, j2, j3⟩, ⟨j4, j5, j6, j7⟩, j8, j9⟩ := A3.out.cells
  go_wp2_with fail
  refine (K1.out _).mono ?_; rintro e w4 ⟨rfl, hb⟩
  clear j0 j1 j2 j3 j4 j5 j6 j7 j8 j9
  have A4 := Lib.hid ((A3.out.step hb).two (.cells #[.int .i64 a, .int .i64 n, .slice sa 0 sc, .slice ha 0 hc] 27) (.cells #[.bool false, .int .i64 0, .int .i64 0, .int .i64 0] 32))
  have c4 := Lib.hid (made1 w4 27 [.int .i64 a, .int .i64 n, .slice sa 0 sc, .slice ha 0 hc] (.cells #[.bool false, .int .i64 0, .int .i64 0, .int .i64 0] 32))
  have u4 := Lib.hid (made2 w4 32 27 [.bool false, .int .i64 0, .int .i64 0, .int .i64 0] (.cells #[.int .i64 a, .int .i64 n, .slice sa 0 sc, .slice ha 0 hc] 27))
  clear hb A3
  obtain ⟨⟨j0, j1, j2, j3⟩, ⟨j4, j5, j6, j7⟩, j8, j9⟩ := A4.out.cells
  obtain ⟨kc0, kc1, kc2, kc3⟩ := c4.out.four
  obtain ⟨ku0, ku1, ku2, ku3⟩ := u4.out.four
  go_wp2_with fail
  refine (K2.out _).mono ?_; rintro e w5 ⟨rfl, hb⟩
  clear j0 j1 j2 j3 j4 j5 j6 j7 j8 j9
  clear kc0 kc1 kc2 kc3 ku0 ku1 ku2 ku3
  have A5 := Lib.hid ((A4.out.step hb).two (.cells #[.int .i64 (U + t), .int .i64 0, .slice none 0 0, .slice none 0 0] 27) (.cells #[.bool false, .int .i64 0, .int .i64 0, .int .i64 0] 32))
  have c5 := Lib.hid (((c4.out.step hb).alloc (.cells #[.int .i64 (U + t), .int .i64 0, .slice none 0 0, .slice none 0 0] 27)).alloc (.cells #[.bool false, .int .i64 0, .int .i64 0, .int .i64 0] 32))
  have u5 := Lib.hid (((u4.out.step hb).alloc (.cells #[.int .i64 (U + t), .int .i64 0, .slice none 0 0, .slice none 0 0] 27)).alloc (.cells #[.bool false, .int .i64 0, .int .i64 0, .int .i64 0] 32))
  have d5 := Lib.hid (made1 w5 27 [.int .i64 (U + t), .int .i64 0, .slice none 0 0, .slice none 0 0] (.cells #[.bool false, .int .i64 0, .int .i64 0, .int .i64 0] 32))
  have x5 := Lib.hid (made2 w5 32 27 [.bool false, .int .i64 0, .int .i64 0, .int .i64 0] (.cells #[.int .i64 (U + t), .int .i64 0, .slice none 0 0, .slice none 0 0] 27))
  clear hb A4 c4 u4
  obtain ⟨⟨j0, j1, j2, j3⟩, ⟨j4, j5, j6, j7⟩, j8, j9⟩ := A5.out.cells
  obtain ⟨kc0, kc1, kc2, kc3⟩ := c5.out.four
  obtain ⟨ku0, ku1, ku2, ku3⟩ := u5.out.four
  obtain ⟨kx0, kx1, kx2, kx3⟩ := x5.out.four
  obtain ⟨kd0, kd1, kd2, kd3⟩ := d5.out.four
  go_wp2_with fail
  refine (WK.out _).mono ?_; rintro e w' ⟨rfl, rfl⟩
  go_wp2_with fail
  refine (SA.out _).mono ?_; rintro e w6 ⟨rfl, hb⟩
  clear j0 j1 j2 j3 j4 j5 j6 j7 j8 j9
  clear kc0 kc1 kc2 kc3 ku0 ku1 ku2 ku3 kx0 kx1 kx2 kx3 kd0 kd1 kd2 kd3
  have A6 := Lib.hid (A5.out.step hb)
  have u6 := Lib.hid (u5.out.step hb)
  have x6 := Lib.hid (x5.out.step hb)
  obtain ⟨kx0, kx1, kx2, kx3⟩ := x6.out.four
  obtain ⟨ku0, ku1, ku2, ku3⟩ := u6.out.four
  clear hb
  go_wp2_with fail
  refine (live_any _).mono ?_; rintro e wl ⟨rfl, hb⟩
  have AL := Lib.hid (A6.out.step hb)
  clear hb
  go_wp2_with fail
  go_ret
  exact ⟨rfl, AL.out.be⟩

set_option maxRecDepth 100000 in
set_option maxHeartbeats 4000000 in
theorem w_yes (k l v b a n t m : Int) (sa ha : Option Addr) (sc hc : Nat) (W : World) (h : MayG k l v b a n 0 0) (t1 : 0 ≤ t) (t2 : t ≤ 274877906944) (a2 : a ≤ 274877906944) (m1 : 1 ≤ m) (m2 : m ≤ 1048576) :
    Calls Try.prog 5 #[.agg #[.int .i64 k, .int .i64 l, .int .i64 v, .int .i64 b], .agg #[.int .i64 a, .int .i64 n, .slice sa 0 sc, .slice ha 0 hc], .agg #[.int .i64 t, .int .i64 m]] W fun e w' => e = .returned (.bool true) ∧ Below W.heap.size W w' := by
  have A0 := Lib.hid (At.made W k l v b a n t m (.slice sa 0 sc) (.slice ha 0 hc))
  have FW := Lib.hid (fun u => Few_yes a n sa ha 0 sc 0 hc u (by decide) (by decide))
  have MK := Lib.hid (fun u => rMay_yes k l v b a n sa ha 0 sc 0 hc u h)
  have EN := Lib.hid (fun u => Ends_yes k l v b a n sa ha 0 sc 0 hc u h)
  obtain ⟨l1, l2, v1, v2⟩ := h.1.lv
  have a1 := h.2.2.1.1
  obtain ⟨u0, ul⟩ := end_bd (n := n) a1 v1
  have WK := Lib.hid (fun u => rWeighs_yes m u m1 m2)
  have g2 : MayG k l v b (endF v a n + t) 0 0 0 := ⟨h.1, h.2.1, ⟨by omega, by omega⟩, by decide, by omega, rfl, rfl⟩
  have Q1 := Ask_yes k l v b a n (endF v a n + t) m sa ha 0 sc 0 hc
  have Q2 := Ask_yes k l v b (endF v a n + t) 0 (endF v a n + t) m none none 0 0 0 0
  have K1 := Lib.hid (fun u => Q1 u ⟨h, ⟨by omega, by omega⟩, ⟨m1, m2⟩⟩)
  have K2 := Lib.hid (fun u => Q2 u ⟨g2, ⟨by omega, by omega⟩, ⟨m1, m2⟩⟩)
  obtain ⟨e1, e2, e3, e4⟩ := ask_end (l := l) (m := m) a1 v1 (show endF v a n ≤ endF v a n + t by omega)
  unfold askV askRm askRs at K1 K2
  rw [e1, e2, e3, e4] at K1
  clear h Q1 Q2 g2 e1 e2 e3 e4
  generalize askHas l v (endF v a n + t) 0 (endF v a n + t) m = H at *
  generalize askRt l v (endF v a n + t) 0 (endF v a n + t) m = T3 at *
  generalize askAl l v (endF v a n + t) 0 (endF v a n + t) m = L at *
  generalize l - H = M at *
  generalize tmax (endF v a n + t) (endF v a n + t) = T at *
  generalize endF v T H - T = S at *
  generalize endF v a n = U at *
  skip
  go_enter Try.func5, Try.ntmps5
  go_wp2_with fail
  refine (FW.out _).mono ?_; rintro e w1 ⟨rfl, hb⟩
  have A1 := Lib.hid (A0.out.step hb)
  clear hb A0
  obtain ⟨⟨j0, j1, j2, j3⟩, ⟨j4, j5, j6, j7⟩, j8, j9⟩ := A1.out.cells
  go_wp2_with fail
  refine (MK.out _).mono ?_; rintro e w2 ⟨rfl, hb⟩
  clear j0 j1 j2 j3 j4 j5 j6 j7 j8 j9
  have A2 := Lib.hid (A1.out.step hb)
  clear hb A1
  obtain ⟨⟨j0, j1, j2, j3⟩, ⟨j4, j5, j6, j7⟩, j8, j9⟩ := A2.out.cells
  go_wp2_with fail
  refine (EN.out _).mono ?_; rintro e w3 ⟨rfl, hb⟩
  clear j0 j1 j2 j3 j4 j5 j6 j7 j8 j9
  have A3 := Lib.hid (A2.out.step hb)
  clear hb A2
  obtain ⟨⟨j0, j1, j2, j3⟩, ⟨j4, j5, j6, j7⟩, j8, j9⟩ := A3.out.cells
  go_wp2_with fail
  refine (K1.out _).mono ?_; rintro e w4 ⟨rfl, hb⟩
  clear j0 j1 j2 j3 j4 j5 j6 j7 j8 j9
  have A4 := Lib.hid ((A3.out.step hb).two (.cells #[.int .i64 T, .int .i64 H, .slice none 0 0, .slice none 0 0] 27) (.cells #[.bool L, .int .i64 M, .int .i64 T3, .int .i64 S] 32))
  have c4 := Lib.hid (made1 w4 27 [.int .i64 T, .int .i64 H, .slice none 0 0, .slice none 0 0] (.cells #[.bool L, .int .i64 M, .int .i64 T3, .int .i64 S] 32))
  have u4 := Lib.hid (made2 w4 32 27 [.bool L, .int .i64 M, .int .i64 T3, .int .i64 S] (.cells #[.int .i64 T, .int .i64 H, .slice none 0 0, .slice none 0 0] 27))
  clear hb A3
  obtain ⟨⟨j0, j1, j2, j3⟩, ⟨j4, j5, j6, j7⟩, j8, j9⟩ := A4.out.cells
  obtain ⟨kc0, kc1, kc2, kc3⟩ := c4.out.four
  obtain ⟨ku0, ku1, ku2, ku3⟩ := u4.out.four
  go_wp2_with fail
  refine (K2.out _).mono ?_; rintro e w5 ⟨rfl, hb⟩
  clear j0 j1 j2 j3 j4 j5 j6 j7 j8 j9
  clear kc0 kc1 kc2 kc3 ku0 ku1 ku2 ku3
  have A5 := Lib.hid ((A4.out.step hb).two (.cells #[.int .i64 T, .int .i64 H, .slice none 0 0, .slice none 0 0] 27) (.cells #[.bool L, .int .i64 M, .int .i64 T3, .int .i64 S] 32))
  have c5 := Lib.hid (((c4.out.step hb).alloc (.cells #[.int .i64 T, .int .i64 H, .slice none 0 0, .slice none 0 0] 27)).alloc (.cells #[.bool L, .int .i64 M, .int .i64 T3, .int .i64 S] 32))
  have u5 := Lib.hid (((u4.out.step hb).alloc (.cells #[.int .i64 T, .int .i64 H, .slice none 0 0, .slice none 0 0] 27)).alloc (.cells #[.bool L, .int .i64 M, .int .i64 T3, .int .i64 S] 32))
  have d5 := Lib.hid (made1 w5 27 [.int .i64 T, .int .i64 H, .slice none 0 0, .slice none 0 0] (.cells #[.bool L, .int .i64 M, .int .i64 T3, .int .i64 S] 32))
  have x5 := Lib.hid (made2 w5 32 27 [.bool L, .int .i64 M, .int .i64 T3, .int .i64 S] (.cells #[.int .i64 T, .int .i64 H, .slice none 0 0, .slice none 0 0] 27))
  clear hb A4 c4 u4
  obtain ⟨⟨j0, j1, j2, j3⟩, ⟨j4, j5, j6, j7⟩, j8, j9⟩ := A5.out.cells
  obtain ⟨kc0, kc1, kc2, kc3⟩ := c5.out.four
  obtain ⟨ku0, ku1, ku2, ku3⟩ := u5.out.four
  obtain ⟨kx0, kx1, kx2, kx3⟩ := x5.out.four
  obtain ⟨kd0, kd1, kd2, kd3⟩ := d5.out.four
  go_wp2_with fail
  refine (WK.out _).mono ?_; rintro e w' ⟨rfl, rfl⟩
  go_wp2_with fail
  refine (Same_0 T H _).mono ?_; rintro e w6 ⟨rfl, hb⟩
  clear j0 j1 j2 j3 j4 j5 j6 j7 j8 j9
  clear kc0 kc1 kc2 kc3 ku0 ku1 ku2 ku3 kx0 kx1 kx2 kx3 kd0 kd1 kd2 kd3
  have A6 := Lib.hid (A5.out.step hb)
  have u6 := Lib.hid (u5.out.step hb)
  have x6 := Lib.hid (x5.out.step hb)
  obtain ⟨kx0, kx1, kx2, kx3⟩ := x6.out.four
  obtain ⟨ku0, ku1, ku2, ku3⟩ := u6.out.four
  obtain ⟨⟨j0, j1, j2, j3⟩, ⟨j4, j5, j6, j7⟩, j8, j9⟩ := A6.out.cells
  clear hb
  go_wp2_with fail
  refine (live_any _).mono ?_; rintro e wl ⟨rfl, hb⟩
  have AL := Lib.hid (A6.out.step hb)
  clear hb
  go_wp2_with fail
  go_ret
  exact ⟨rfl, AL.out.be⟩

theorem walk (k l v b : Int) (c : CellV) (t m : Int) (h0 : (Lit.int .i64 k).wf = true) (h1 : (Lit.int .i64 l).wf = true) (h2 : (Lit.int .i64 v).wf = true) (h3 : (Lit.int .i64 b).wf = true) {W : World} (hc : IsCell W c) (i0 : (Lit.int .i64 t).wf = true) (i1 : (Lit.int .i64 m).wf = true) :
    Calls Try.prog 5 #[.agg #[.int .i64 k, .int .i64 l, .int .i64 v, .int .i64 b], .agg #[.int .i64 c.a, .int .i64 c.n, .slice c.sa c.sn c.sc, .slice c.ha c.hn c.hc], .agg ([t, m].map (Value.int .i64)).toArray] W fun e w' => e = .returned (.bool true) ∧ Below W.heap.size W w' := by
  obtain ⟨q1, q2⟩ := hc.len
  show Calls Try.prog 5 #[.agg #[.int .i64 k, .int .i64 l, .int .i64 v, .int .i64 b], .agg #[.int .i64 c.a, .int .i64 c.n, .slice c.sa c.sn c.sc, .slice c.ha c.hn c.hc], .agg #[.int .i64 t, .int .i64 m]] W fun e w' => e = .returned (.bool true) ∧ Below W.heap.size W w'
  clear hc
  obtain ⟨a, n, sa, ha, sn, sc, hn, hc, zs⟩ := c
  simp only at q1 q2 ⊢
  by_cases f : sn ≤ 40 ∧ hn ≤ 40
  · by_cases g : MayG k l v b a n sn hn
    · by_cases ht : 0 ≤ t ∧ t ≤ 274877906944 ∧ a ≤ 274877906944
      · obtain ⟨rfl, rfl⟩ : sn = 0 ∧ hn = 0 := g.2.2.2.2.2
        by_cases x : 1 ≤ m ∧ m ≤ 1048576
        · exact w_yes k l v b a n t m sa ha sc hc W g ht.1 ht.2.1 ht.2.2 x.1 x.2
        · exact w_no k l v b a n t m sa ha sc hc W g ht.1 ht.2.1 ht.2.2 x
      · exact n2 k l v b a n t m sa ha sn sc hn hc W f.1 f.2 g ht
    · exact n1 k l v b a n t m sa ha sn sc hn hc W f.1 f.2 g
  · exact n0 k l v b a n t m sa ha sn sc hn hc W f q1 q2

theorem own : ownKnob Try.prog.godebug = none := by kernel_rfl
theorem laidOut : laidOutB Try.prog = true := by kernel_rfl
theorem contract (H : Type) (enc : TypeId × Value → H) (W : World) (base : Nat) (args : Array Value) (ds gs : List (DataW H)) (before : List MemPlace)
    (hval : ∀ (j : Nat) t v, Try.f5.params[j]? = some t → args[j]? = some v → Value.okWide Try.prog W .any base t v)
    (hW : DataW.Whole enc Try.prog Try.f5.params.toList Rows.fixedEndsSpec.vars false W args.toList ds gs before) :
    Calls Try.prog 5 args W fun e W' => ∃ v, e = .returned v ∧ Rows.fixedEndsSpec.post enc Try.prog Try.f5 false true false false W args v W' := by
  have hW' := hW
  obtain ⟨p, q, hA0, hV, rfl, hfz, hnd⟩ := hW
  have hA : DataW.TrodAll enc Try.prog W 0 (fun _ => true) true Try.f5.params.toList args.toList ds p := hA0
  rw [Try.params5] at hA hval
  obtain ⟨v0, vs0, d0, ds0, p0, q0, hargs, rfl, rfl, h0, r0⟩ := trodAll_cons hA
  obtain ⟨v1, vs1, d1, ds1, p1, q1, rfl, rfl, rfl, h1, r1⟩ := trodAll_cons r0
  obtain ⟨v2, vs2, d2, ds2, p2, q2, rfl, rfl, rfl, h2, r2⟩ := trodAll_cons r1
  obtain ⟨rfl, rfl, rfl⟩ := trodAll_nil r2
  obtain rfl : args = #[v0, v1, v2] := by cases args; simp_all
  obtain ⟨rfl, rfl⟩ := trodVars_none hV
  have k0 := h0
  have lt0 : ∀ x ∈ p0, x.block < W.heap.size := by obtain ⟨m, hm⟩ := k0; exact DataW.trod_lt m _ _ _ hm
  obtain ⟨p0_k, p0_l, p0_v, p0_b, rfl, wp0_k, wp0_l, wp0_v, wp0_b⟩ := open_pol (hval 0 23 v0 rfl rfl) h0
  have k1 := h1
  have lt1 : ∀ x ∈ p1, x.block < W.heap.size := by obtain ⟨m, hm⟩ := k1; exact DataW.trod_lt m _ _ _ hm
  obtain ⟨c1, rfl, w1⟩ := open_cell (hval 1 27 v1 rfl rfl) h1
  have k2 := h2
  have lt2 : ∀ x ∈ p2, x.block < W.heap.size := by obtain ⟨m, hm⟩ := k2; exact DataW.trod_lt m _ _ _ hm
  obtain ⟨l2, rfl, hl2, wl2⟩ := open_arr_int Try.underlying28 Try.underlying3 (by kernel_rfl) (by kernel_rfl) (hval 2 28 v2 rfl rfl) h2
  obtain ⟨x2_0, x2_1, rfl⟩ : ∃ x2_0 x2_1, l2 = [x2_0, x2_1] := by
    match l2, hl2 with
    | [x2_0, x2_1], _ => exact ⟨x2_0, x2_1, rfl⟩
  clear hA0
  refine (walk p0_k p0_l p0_v p0_b c1 x2_0 x2_1 wp0_k wp0_l wp0_v wp0_b w1 (wl2 x2_0 (by simp)) (wl2 x2_1 (by simp))).mono fun e W' ⟨he, bel⟩ => ?_
  subst he
  exact ⟨_, rfl, _, _, _, [], _, [], hW', trodAll_mk1 (shut_bool Try.underlying4 _), (trodAll_cons_mk (Below.trod laidOut (by kernel_rfl) (of_decide_eq_true (by kernel_rfl)) k0 bel lt0) (trodAll_cons_mk (Below.trod laidOut (by kernel_rfl) (of_decide_eq_true (by kernel_rfl)) k1 bel lt1) (trodAll_cons_mk (Below.trod laidOut (by kernel_rfl) (of_decide_eq_true (by kernel_rfl)) k2 bel lt2) trodAll_mk0))), rfl, bel.frame _, fun h => by cases h⟩

set_option maxRecDepth 100000 in
theorem lifted (os : Os) (started : os.Started) (H : Type) (enc : TypeId × Value → H) :
    ReturnsInHanded {} Try.checked os 5 .any (Rows.fixedEndsSpec.pre6 enc Try.prog Try.f5 Rows.fixedEndsRow.domain false) (Rows.fixedEndsSpec.post enc Try.prog Try.f5 false true false false) := by
  refine returnsInHanded_of_change (C := Try.checked) own started (by kernel_rfl) Try.func5
    (ChangeSpec.witness6 (enc := enc) (C := Try.checked) false ⟨#[], #[.agg #[.int .i64 0, .int .i64 0, .int .i64 0, .int .i64 0], .agg #[.int .i64 0, .int .i64 0, .slice none 0 0, .slice none 0 0], .agg #[.int .i64 0, .int .i64 0]], []⟩ 8 (by kernel_rfl) (by kernel_rfl) (by kernel_rfl) (by kernel_rfl)) ?_
  intro W base args ds gs before hval hW _ _
  exact contract H enc W base args ds gs before hval hW

theorem over : Rows.fixedEndsRow.holds Try.pinned (OpenSpec.ofChange Rows.fixedEndsSpec) :=
  OpenClaim.holds_of_wide 5 Try.f5 rfl rfl rfl rfl rfl rfl rfl ⟨rfl, rfl, rfl, rfl, rfl⟩ rfl rfl rfl rfl rfl (by kernel_rfl) Try.func5 (by kernel_rfl)
    (of_decide_eq_true (by kernel_rfl)) (by unfold Func.isWrapper; first | (rw [if_pos (by decide +kernel)]; kernel_rfl) | (rw [if_neg (by decide +kernel)]; exact ⟨rfl, rfl⟩))
    (fun os started H enc _ => lifted os started H enc)
end Go.Proofs.Ytdmephlappmmdab.fixedEnds
namespace Go.Proofs.Ytdmephlappmmdab
theorem fixedEnds_proved : Rows.FixedEndsSaid := fixedEnds.over
end Go.Proofs.Ytdmephlappmmdab

