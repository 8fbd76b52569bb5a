/- The walk of the law ExactEnds, over contracts that are handed in. WRITTEN BY gen_lends.py. -/
import Derived.Test.YtgdcgilhaedbmaaRows
import Derived.Test.YtgdcgilhaedbmaaExLive
import Derived.Test.YtgdcgilhaedbmaaCel1
namespace Go.Proofs.Ytgdcgilhaedbmaa.exactEnds
open Go.ChangeShapes Go.WideShapes Go.ChangeAt Go.RowKit
set_option linter.unusedVariables false

/-- The policy, the cell and the numbers, in three blocks. -/
structure At (w0 : World) (k l v b a n t m : Int) (x y : Value) (w : World) : Prop where
  p : Has w w0.heap.size 23 [.int .i64 k, .int .i64 l, .int .i64 v, .int .i64 b]
  c : Has w (w0.heap.size + 1) 27 [.int .i64 a, .int .i64 n, x, y]
  n : Has w (w0.heap.size + 1 + 1) 28 [.int .i64 t, .int .i64 m]
  be : Below w0.heap.size w0 w
theorem At.made (w : World) (k l v b a n t m : Int) (x y : Value) : At w k l v b a n t m x y (((w.alloc (.cells #[.int .i64 k, .int .i64 l, .int .i64 v, .int .i64 b] 23)).alloc (.cells #[.int .i64 a, .int .i64 n, x, y] 27)).alloc (.cells #[.int .i64 t, .int .i64 m] 28)) := by
  refine ⟨((Has.made w 23 [.int .i64 k, .int .i64 l, .int .i64 v, .int .i64 b]).alloc _).alloc _, Has.alloc ?_ _, ?_, (((Below.refl _ _).alloc (Nat.le_refl _) _).alloc (by simp) _).alloc (by simp; omega) _⟩
  · have := Has.made (w.alloc (.cells #[.int .i64 k, .int .i64 l, .int .i64 v, .int .i64 b] 23)) 27 [.int .i64 a, .int .i64 n, x, y]
    simpa using this
  · have := Has.made ((w.alloc (.cells #[.int .i64 k, .int .i64 l, .int .i64 v, .int .i64 b] 23)).alloc (.cells #[.int .i64 a, .int .i64 n, x, y] 27)) 28 [.int .i64 t, .int .i64 m]
    simpa using this
theorem At.step {w0 w w' : World} {k l v b a n t m : Int} {x y : Value} (h : At w0 k l v b a n t m x y w) (hb : Below w.heap.size w w') : At w0 k l v b a n t m x y w' :=
  ⟨h.p.step hb, h.c.step hb, h.n.step hb, h.be.trans (hb.mono h.be.size)⟩
theorem At.two {w0 w : World} {k l v b a n t m : Int} {x y : Value} (h : At w0 k l v b a n t m x y w) (o o' : Obj) : At w0 k l v b a n t m x y ((w.alloc o).alloc o') :=
  (h.step ((Below.refl _ _).alloc (Nat.le_refl _) o)).step ((Below.refl _ _).alloc (Nat.le_refl _) o')
theorem At.cells {w0 w : World} {k l v b a n t m : Int} {x y : Value} (h : At w0 k l v b a n t m x y w) :
    (w.cell? ⟨w0.heap.size, 0, none⟩ = some (.int .i64 k) ∧ w.cell? ⟨w0.heap.size, 1, none⟩ = some (.int .i64 l) ∧ w.cell? ⟨w0.heap.size, 2, none⟩ = some (.int .i64 v) ∧ w.cell? ⟨w0.heap.size, 3, none⟩ = some (.int .i64 b)) ∧
    (w.cell? ⟨w0.heap.size + 1, 0, none⟩ = some (.int .i64 a) ∧ w.cell? ⟨w0.heap.size + 1, 1, none⟩ = some (.int .i64 n) ∧ w.cell? ⟨w0.heap.size + 1, 2, none⟩ = some x ∧ w.cell? ⟨w0.heap.size + 1, 3, none⟩ = some y) ∧
    (w.cell? ⟨w0.heap.size + 1 + 1, 0, none⟩ = some (.int .i64 t) ∧ w.cell? ⟨w0.heap.size + 1 + 1, 1, none⟩ = some (.int .i64 m)) :=
  ⟨h.p.four, h.c.four, h.n.cell 0, h.n.cell 1⟩
theorem below_2 (w : World) (o o' : Obj) : Below w.heap.size w ((w.alloc o).alloc o') := ((Below.refl _ _).alloc (Nat.le_refl _) _).alloc (by simp) _

set_option maxRecDepth 100000 in
set_option maxHeartbeats 4000000 in
theorem n0 (k l v b a n t m : Int) (sa ha : Option Addr) (sn sc hn hc : Nat) (W : World) (h : ¬ (sn ≤ 40 ∧ hn ≤ 40)) (q1 : sn ≤ maxLen) (q2 : hn ≤ maxLen) : Calls Try.prog 5 #[.agg #[.int .i64 k, .int .i64 l, .int .i64 v, .int .i64 b], .agg #[.int .i64 a, .int .i64 n, .slice sa sn sc, .slice ha hn hc], .agg #[.int .i64 t, .int .i64 m]] W fun e w' => e = .returned (.bool true) ∧ Below W.heap.size W w' := by
  have A0 := Lib.hid (At.made W k l v b a n t m (.slice sa sn sc) (.slice ha hn hc))
  have FW := Lib.hid (fun u => Few_no a n sa ha sn sc hn hc u h q1 q2)
  clear h q1 q2
  go_enter Try.func5, Try.ntmps5
  go_wp2_with fail
  refine (FW.out _).mono ?_; rintro e w1 ⟨rfl, hb⟩
  have A1 := Lib.hid (A0.out.step hb)
  clear hb A0
  go_wp2_with fail
  refine (live_any _).mono ?_; rintro e wl ⟨rfl, hb⟩
  have AL := Lib.hid (A1.out.step hb)
  clear hb
  go_wp2_with fail
  go_ret
  exact ⟨rfl, AL.out.be⟩

set_option maxRecDepth 100000 in
set_option maxHeartbeats 4000000 in
theorem n1 (k l v b a n t m : Int) (sa ha : Option Addr) (sn sc hn hc : Nat) (W : World) (f1 : sn ≤ 40) (f2 : hn ≤ 40) (MK : ∀ u, Below W.heap.size W u → Calls Try.prog 14 #[.agg #[.int .i64 k, .int .i64 l, .int .i64 v, .int .i64 b], .agg #[.int .i64 a, .int .i64 n, .slice sa sn sc, .slice ha hn hc]] u fun e w' => e = .returned (.bool false) ∧ Below u.heap.size u w') : Calls Try.prog 5 #[.agg #[.int .i64 k, .int .i64 l, .int .i64 v, .int .i64 b], .agg #[.int .i64 a, .int .i64 n, .slice sa sn sc, .slice ha hn hc], .agg #[.int .i64 t, .int .i64 m]] W fun e w' => e = .returned (.bool true) ∧ Below W.heap.size W w' := by
  have A0 := Lib.hid (At.made W k l v b a n t m (.slice sa sn sc) (.slice ha hn hc))
  have FW := Lib.hid (fun u => Few_yes a n sa ha sn sc hn hc u f1 f2)
  replace MK := Lib.hid MK
  clear f1 f2
  go_enter Try.func5, Try.ntmps5
  go_wp2_with fail
  refine (FW.out _).mono ?_; rintro e w1 ⟨rfl, hb⟩
  have A1 := Lib.hid (A0.out.step hb)
  clear hb A0
  obtain ⟨⟨j0, j1, j2, j3⟩, ⟨j4, j5, j6, j7⟩, j8, j9⟩ := A1.out.cells
  go_wp2_with fail
  refine (MK.out _ A1.out.be).mono ?_; rintro e w2 ⟨rfl, hb⟩
  clear j0 j1 j2 j3 j4 j5 j6 j7 j8 j9
  have A2 := Lib.hid (A1.out.step hb)
  clear hb A1
  go_wp2_with fail
  refine (live_any _).mono ?_; rintro e wl ⟨rfl, hb⟩
  have AL := Lib.hid (A2.out.step hb)
  clear hb
  go_wp2_with fail
  go_ret
  exact ⟨rfl, AL.out.be⟩

set_option maxRecDepth 100000 in
set_option maxHeartbeats 4000000 in
theorem n2 (k l v b a n t m : Int) (sa ha : Option Addr) (sn sc hn hc : Nat) (W : World) (f1 : sn ≤ 40) (f2 : hn ≤ 40) (MK : ∀ u, Below W.heap.size W u → Calls Try.prog 14 #[.agg #[.int .i64 k, .int .i64 l, .int .i64 v, .int .i64 b], .agg #[.int .i64 a, .int .i64 n, .slice sa sn sc, .slice ha hn hc]] u fun e w' => e = .returned (.bool true) ∧ Below u.heap.size u w') (ht : ¬ (0 ≤ t ∧ t ≤ 274877906944 ∧ a ≤ 274877906944)) : Calls Try.prog 5 #[.agg #[.int .i64 k, .int .i64 l, .int .i64 v, .int .i64 b], .agg #[.int .i64 a, .int .i64 n, .slice sa sn sc, .slice ha hn hc], .agg #[.int .i64 t, .int .i64 m]] W fun e w' => e = .returned (.bool true) ∧ Below W.heap.size W w' := by
  have A0 := Lib.hid (At.made W k l v b a n t m (.slice sa sn sc) (.slice ha hn hc))
  have FW := Lib.hid (fun u => Few_yes a n sa ha sn sc hn hc u f1 f2)
  replace MK := Lib.hid MK
  clear f1 f2
  go_enter Try.func5, Try.ntmps5
  go_wp2_with fail
  refine (FW.out _).mono ?_; rintro e w1 ⟨rfl, hb⟩
  have A1 := Lib.hid (A0.out.step hb)
  clear hb A0
  obtain ⟨⟨j0, j1, j2, j3⟩, ⟨j4, j5, j6, j7⟩, j8, j9⟩ := A1.out.cells
  go_wp2_with fail
  refine (MK.out _ A1.out.be).mono ?_; rintro e w2 ⟨rfl, hb⟩
  clear j0 j1 j2 j3 j4 j5 j6 j7 j8 j9
  have A2 := Lib.hid (A1.out.step hb)
  clear hb A1
  obtain ⟨⟨j0, j1, j2, j3⟩, ⟨j4, j5, j6, j7⟩, j8, j9⟩ := A2.out.cells
  by_cases ht0 : t < 0
  · clear ht
    go_wp2_with fail
    refine (live_any _).mono ?_; rintro e wl ⟨rfl, hb⟩
    have AL := Lib.hid (A2.out.step hb)
    clear hb
    go_wp2_with fail
    go_ret
    exact ⟨rfl, AL.out.be⟩
  · by_cases ht1 : 274877906944 < t
    · clear ht
      go_wp2_with fail
      refine (live_any _).mono ?_; rintro e wl ⟨rfl, hb⟩
      have AL := Lib.hid (A2.out.step hb)
      clear hb
      go_wp2_with fail
      go_ret
      exact ⟨rfl, AL.out.be⟩
    · have ht2 : 274877906944 < a := by omega
      clear ht
      go_wp2_with fail
      refine (live_any _).mono ?_; rintro e wl ⟨rfl, hb⟩
      have AL := Lib.hid (A2.out.step hb)
      clear hb
      go_wp2_with fail
      go_ret
      exact ⟨rfl, AL.out.be⟩

set_option maxRecDepth 100000 in
set_option maxHeartbeats 4000000 in
theorem w_yes (k l v b a n t m : Int) (sa ha : Option Addr) (sn sc hn hc : Nat) (W : World) (f1 : sn ≤ 40) (f2 : hn ≤ 40) (MK : ∀ u, Below W.heap.size W u → Calls Try.prog 14 #[.agg #[.int .i64 k, .int .i64 l, .int .i64 v, .int .i64 b], .agg #[.int .i64 a, .int .i64 n, .slice sa sn sc, .slice ha hn hc]] u fun e w' => e = .returned (.bool true) ∧ Below u.heap.size u w') (t1 : 0 ≤ t) (t2 : t ≤ 274877906944) (a1 : 0 ≤ a) (a2 : a ≤ 274877906944) (v1 : 1 ≤ v) (v2 : v ≤ 1048576) (U : Int) (u0 : a ≤ U) (ul : U ≤ a + v) (m1 : 1 ≤ m) (m2 : m ≤ 1048576) (T H : Int) (xn : Nat) (f : Nat → Int) (yn : Nat) (g1 g2 : Nat → Int) (al : Bool) (rm rt rs : Int) (x1 : xn ≤ 40) (x2 : yn ≤ 40)
    (EN : ∀ u, Below W.heap.size W u → Calls Try.prog 17 #[.agg #[.int .i64 k, .int .i64 l, .int .i64 v, .int .i64 b], .agg #[.int .i64 a, .int .i64 n, .slice sa sn sc, .slice ha hn hc]] u fun e w' => e = .returned (.int .i64 U) ∧ Below u.heap.size u w')
    (K1 : ∀ u, Below W.heap.size W u → Calls Try.prog 10 #[.agg #[.int .i64 k, .int .i64 l, .int .i64 v, .int .i64 b], .agg #[.int .i64 a, .int .i64 n, .slice sa sn sc, .slice ha hn hc], .int .i64 (U + t), .int .i64 m] u (Tells T H xn f yn g1 g2 al rm rt rs u))
    (K2 : ∀ u, Calls Try.prog 10 #[.agg #[.int .i64 k, .int .i64 l, .int .i64 v, .int .i64 b], .agg #[.int .i64 (U + t), .int .i64 0, .slice none 0 0, .slice none 0 0], .int .i64 (U + t), .int .i64 m] u (Tells T H xn f yn g1 g2 al rm rt rs u)) : Calls Try.prog 5 #[.agg #[.int .i64 k, .int .i64 l, .int .i64 v, .int .i64 b], .agg #[.int .i64 a, .int .i64 n, .slice sa sn sc, .slice ha hn hc], .agg #[.int .i64 t, .int .i64 m]] W fun e w' => e = .returned (.bool true) ∧ Below W.heap.size W w' := by
  have A0 := Lib.hid (At.made W k l v b a n t m (.slice sa sn sc) (.slice ha hn hc))
  have FW := Lib.hid (fun u => Few_yes a n sa ha sn sc hn hc u f1 f2)
  replace MK := Lib.hid MK
  replace EN := Lib.hid EN
  replace K1 := Lib.hid K1
  replace K2 := Lib.hid K2
  have WK := Lib.hid (fun u => rWeighs_yes m u m1 m2)
  clear f1 f2
  go_enter Try.func5, Try.ntmps5
  go_wp2_with fail
  refine (FW.out _).mono ?_; rintro e w1 ⟨rfl, hb⟩
  have A1 := Lib.hid (A0.out.step hb)
  clear hb A0
  obtain ⟨⟨j0, j1, j2, j3⟩, ⟨j4, j5, j6, j7⟩, j8, j9⟩ := A1.out.cells
  go_wp2_with fail
  refine (MK.out _ A1.out.be).mono ?_; rintro e w2 ⟨rfl, hb⟩
  clear j0 j1 j2 j3 j4 j5 j6 j7 j8 j9
  have A2 := Lib.hid (A1.out.step hb)
  clear hb A1
  obtain ⟨⟨j0, j1, j2, j3⟩, ⟨j4, j5, j6, j7⟩, j8, j9⟩ := A2.out.cells
  go_wp2_with fail
  refine (EN.out _ A2.out.be).mono ?_; rintro e w3 ⟨rfl, hb⟩
  clear j0 j1 j2 j3 j4 j5 j6 j7 j8 j9
  have A3 := Lib.hid (A2.out.step hb)
  clear hb A2
  obtain ⟨⟨j0, j1, j2, j3⟩, ⟨j4, j5, j6, j7⟩, j8, j9⟩ := A3.out.cells
  go_wp2_with fail
  refine (K1.out _ A3.out.be).mono ?_; rintro e w4 ⟨da, ea, dc, ec, rfl, hs, hh, hb⟩
  clear j0 j1 j2 j3 j4 j5 j6 j7 j8 j9
  have A4 := Lib.hid ((A3.out.step hb).two (.cells #[.int .i64 T, .int .i64 H, .slice da xn dc, .slice ea yn ec] 27) (.cells #[.bool al, .int .i64 rm, .int .i64 rt, .int .i64 rs] 32))
  have c4 := Lib.hid (made1 w4 27 [.int .i64 T, .int .i64 H, .slice da xn dc, .slice ea yn ec] (.cells #[.bool al, .int .i64 rm, .int .i64 rt, .int .i64 rs] 32))
  have u4 := Lib.hid (made2 w4 32 27 [.bool al, .int .i64 rm, .int .i64 rt, .int .i64 rs] (.cells #[.int .i64 T, .int .i64 H, .slice da xn dc, .slice ea yn ec] 27))
  have Sc4 := Lib.hid (hs.below (below_2 w4 (.cells #[.int .i64 T, .int .i64 H, .slice da xn dc, .slice ea yn ec] 27) (.cells #[.bool al, .int .i64 rm, .int .i64 rt, .int .i64 rs] 32)))
  have Hc4 := Lib.hid (hh.below (below_2 w4 (.cells #[.int .i64 T, .int .i64 H, .slice da xn dc, .slice ea yn ec] 27) (.cells #[.bool al, .int .i64 rm, .int .i64 rt, .int .i64 rs] 32)))
  clear hb hs hh A3
  obtain ⟨⟨j0, j1, j2, j3⟩, ⟨j4, j5, j6, j7⟩, j8, j9⟩ := A4.out.cells
  obtain ⟨kc0, kc1, kc2, kc3⟩ := c4.out.four
  obtain ⟨ku0, ku1, ku2, ku3⟩ := u4.out.four
  go_wp2_with fail
  refine (K2.out _).mono ?_; rintro e w5 ⟨db, eb, dd, ed, rfl, hs, hh, hb⟩
  clear j0 j1 j2 j3 j4 j5 j6 j7 j8 j9
  clear kc0 kc1 kc2 kc3 ku0 ku1 ku2 ku3
  have A5 := Lib.hid ((A4.out.step hb).two (.cells #[.int .i64 T, .int .i64 H, .slice db xn dd, .slice eb yn ed] 27) (.cells #[.bool al, .int .i64 rm, .int .i64 rt, .int .i64 rs] 32))
  have c5 := Lib.hid ((c4.out.step hb).step (below_2 w5 (.cells #[.int .i64 T, .int .i64 H, .slice db xn dd, .slice eb yn ed] 27) (.cells #[.bool al, .int .i64 rm, .int .i64 rt, .int .i64 rs] 32)))
  have u5 := Lib.hid ((u4.out.step hb).step (below_2 w5 (.cells #[.int .i64 T, .int .i64 H, .slice db xn dd, .slice eb yn ed] 27) (.cells #[.bool al, .int .i64 rm, .int .i64 rt, .int .i64 rs] 32)))
  have Sc5 := Lib.hid ((Sc4.out.below hb).below (below_2 w5 (.cells #[.int .i64 T, .int .i64 H, .slice db xn dd, .slice eb yn ed] 27) (.cells #[.bool al, .int .i64 rm, .int .i64 rt, .int .i64 rs] 32)))
  have Hc5 := Lib.hid ((Hc4.out.below hb).below (below_2 w5 (.cells #[.int .i64 T, .int .i64 H, .slice db xn dd, .slice eb yn ed] 27) (.cells #[.bool al, .int .i64 rm, .int .i64 rt, .int .i64 rs] 32)))
  have d5 := Lib.hid (made1 w5 27 [.int .i64 T, .int .i64 H, .slice db xn dd, .slice eb yn ed] (.cells #[.bool al, .int .i64 rm, .int .i64 rt, .int .i64 rs] 32))
  have x5 := Lib.hid (made2 w5 32 27 [.bool al, .int .i64 rm, .int .i64 rt, .int .i64 rs] (.cells #[.int .i64 T, .int .i64 H, .slice db xn dd, .slice eb yn ed] 27))
  have Sd5 := Lib.hid (hs.below (below_2 w5 (.cells #[.int .i64 T, .int .i64 H, .slice db xn dd, .slice eb yn ed] 27) (.cells #[.bool al, .int .i64 rm, .int .i64 rt, .int .i64 rs] 32)))
  have Hd5 := Lib.hid (hh.below (below_2 w5 (.cells #[.int .i64 T, .int .i64 H, .slice db xn dd, .slice eb yn ed] 27) (.cells #[.bool al, .int .i64 rm, .int .i64 rt, .int .i64 rs] 32)))
  clear hb hs hh A4 c4 u4 Sc4 Hc4
  obtain ⟨⟨j0, j1, j2, j3⟩, ⟨j4, j5, j6, j7⟩, j8, j9⟩ := A5.out.cells
  obtain ⟨kc0, kc1, kc2, kc3⟩ := c5.out.four
  obtain ⟨ku0, ku1, ku2, ku3⟩ := u5.out.four
  obtain ⟨kx0, kx1, kx2, kx3⟩ := x5.out.four
  obtain ⟨kd0, kd1, kd2, kd3⟩ := d5.out.four
  go_wp2_with fail
  refine (WK.out _).mono ?_; rintro e w' ⟨rfl, rfl⟩
  go_wp2_with fail
  refine (Same_eq T H da db ea eb xn dc dd yn ec ed f g1 g2 _ Sc5.out Sd5.out Hc5.out Hd5.out x1 x2).mono ?_; rintro e w6 ⟨rfl, hb⟩
  clear j0 j1 j2 j3 j4 j5 j6 j7 j8 j9
  clear kc0 kc1 kc2 kc3 ku0 ku1 ku2 ku3 kx0 kx1 kx2 kx3 kd0 kd1 kd2 kd3
  have A6 := Lib.hid (A5.out.step hb)
  have u6 := Lib.hid (u5.out.step hb)
  have x6 := Lib.hid (x5.out.step hb)
  obtain ⟨kx0, kx1, kx2, kx3⟩ := x6.out.four
  obtain ⟨ku0, ku1, ku2, ku3⟩ := u6.out.four
  obtain ⟨⟨j0, j1, j2, j3⟩, ⟨j4, j5, j6, j7⟩, j8, j9⟩ := A6.out.cells
  clear hb
  go_wp2_with fail
  refine (live_any _).mono ?_; rintro e wl ⟨rfl, hb⟩
  have AL := Lib.hid (A6.out.step hb)
  clear hb
  go_wp2_with fail
  go_ret
  exact ⟨rfl, AL.out.be⟩

set_option maxRecDepth 100000 in
set_option maxHeartbeats 4000000 in
theorem w_no (k l v b a n t m : Int) (sa ha : Option Addr) (sn sc hn hc : Nat) (W : World) (f1 : sn ≤ 40) (f2 : hn ≤ 40) (MK : ∀ u, Below W.heap.size W u → Calls Try.prog 14 #[.agg #[.int .i64 k, .int .i64 l, .int .i64 v, .int .i64 b], .agg #[.int .i64 a, .int .i64 n, .slice sa sn sc, .slice ha hn hc]] u fun e w' => e = .returned (.bool true) ∧ Below u.heap.size u w') (t1 : 0 ≤ t) (t2 : t ≤ 274877906944) (a1 : 0 ≤ a) (a2 : a ≤ 274877906944) (v1 : 1 ≤ v) (v2 : v ≤ 1048576) (U : Int) (u0 : a ≤ U) (ul : U ≤ a + v) (hm : ¬ (1 ≤ m ∧ m ≤ 1048576)) (f g1 g2 : Nat → Int) (hsum : SumsAt W sa sn f) (hhit : HitsAt W ha hn g1 g2) (T H : Int) (xn : Nat) (f' : Nat → Int) (yn : Nat) (g1' g2' : Nat → Int)
    (EN : ∀ u, Below W.heap.size W u → Calls Try.prog 17 #[.agg #[.int .i64 k, .int .i64 l, .int .i64 v, .int .i64 b], .agg #[.int .i64 a, .int .i64 n, .slice sa sn sc, .slice ha hn hc]] u fun e w' => e = .returned (.int .i64 U) ∧ Below u.heap.size u w')
    (K1 : ∀ u, Below W.heap.size W u → Calls Try.prog 10 #[.agg #[.int .i64 k, .int .i64 l, .int .i64 v, .int .i64 b], .agg #[.int .i64 a, .int .i64 n, .slice sa sn sc, .slice ha hn hc], .int .i64 (U + t), .int .i64 m] u (Tells a n sn f hn g1 g2 false 0 0 0 u))
    (K2 : ∀ u, Calls Try.prog 10 #[.agg #[.int .i64 k, .int .i64 l, .int .i64 v, .int .i64 b], .agg #[.int .i64 (U + t), .int .i64 0, .slice none 0 0, .slice none 0 0], .int .i64 (U + t), .int .i64 m] u (Tells T H xn f' yn g1' g2' false 0 0 0 u)) : Calls Try.prog 5 #[.agg #[.int .i64 k, .int .i64 l, .int .i64 v, .int .i64 b], .agg #[.int .i64 a, .int .i64 n, .slice sa sn sc, .slice ha hn hc], .agg #[.int .i64 t, .int .i64 m]] W fun e w' => e = .returned (.bool true) ∧ Below W.heap.size W w' := by
  have A0 := Lib.hid (At.made W k l v b a n t m (.slice sa sn sc) (.slice ha hn hc))
  have FW := Lib.hid (fun u => Few_yes a n sa ha sn sc hn hc u f1 f2)
  replace MK := Lib.hid MK
  replace EN := Lib.hid EN
  replace K1 := Lib.hid K1
  replace K2 := Lib.hid K2
  have WK := Lib.hid (fun u => rWeighs_no m u hm)
  have SW := Lib.hid hsum
  have HW := Lib.hid hhit
  have F1 := Lib.hid f1
  have F2 := Lib.hid f2
  clear f1 f2 hm hsum hhit
  go_enter Try.func5, Try.ntmps5
  go_wp2_with fail
  refine (FW.out _).mono ?_; rintro e w1 ⟨rfl, hb⟩
  have A1 := Lib.hid (A0.out.step hb)
  clear hb A0
  obtain ⟨⟨j0, j1, j2, j3⟩, ⟨j4, j5, j6, j7⟩, j8, j9⟩ := A1.out.cells
  go_wp2_with fail
  refine (MK.out _ A1.out.be).mono ?_; rintro e w2 ⟨rfl, hb⟩
  clear j0 j1 j2 j3 j4 j5 j6 j7 j8 j9
  have A2 := Lib.hid (A1.out.step hb)
  clear hb A1
  obtain ⟨⟨j0, j1, j2, j3⟩, ⟨j4, j5, j6, j7⟩, j8, j9⟩ := A2.out.cells
  go_wp2_with fail
  refine (EN.out _ A2.out.be).mono ?_; rintro e w3 ⟨rfl, hb⟩
  clear j0 j1 j2 j3 j4 j5 j6 j7 j8 j9
  have A3 := Lib.hid (A2.out.step hb)
  clear hb A2
  obtain ⟨⟨j0, j1, j2, j3⟩, ⟨j4, j5, j6, j7⟩, j8, j9⟩ := A3.out.cells
  go_wp2_with fail
  refine (K1.out _ A3.out.be).mono ?_; rintro e w4 ⟨da, ea, dc, ec, rfl, hs, hh, hb⟩
  clear j0 j1 j2 j3 j4 j5 j6 j7 j8 j9
  have A4 := Lib.hid ((A3.out.step hb).two (.cells #[.int .i64 a, .int .i64 n, .slice da sn dc, .slice ea hn ec] 27) (.cells #[.bool false, .int .i64 0, .int .i64 0, .int .i64 0] 32))
  have c4 := Lib.hid (made1 w4 27 [.int .i64 a, .int .i64 n, .slice da sn dc, .slice ea hn ec] (.cells #[.bool false, .int .i64 0, .int .i64 0, .int .i64 0] 32))
  have u4 := Lib.hid (made2 w4 32 27 [.bool false, .int .i64 0, .int .i64 0, .int .i64 0] (.cells #[.int .i64 a, .int .i64 n, .slice da sn dc, .slice ea hn ec] 27))
  have Sc4 := Lib.hid (hs.below (below_2 w4 (.cells #[.int .i64 a, .int .i64 n, .slice da sn dc, .slice ea hn ec] 27) (.cells #[.bool false, .int .i64 0, .int .i64 0, .int .i64 0] 32)))
  have Hc4 := Lib.hid (hh.below (below_2 w4 (.cells #[.int .i64 a, .int .i64 n, .slice da sn dc, .slice ea hn ec] 27) (.cells #[.bool false, .int .i64 0, .int .i64 0, .int .i64 0] 32)))
  clear hb hs hh A3
  obtain ⟨⟨j0, j1, j2, j3⟩, ⟨j4, j5, j6, j7⟩, j8, j9⟩ := A4.out.cells
  obtain ⟨kc0, kc1, kc2, kc3⟩ := c4.out.four
  obtain ⟨ku0, ku1, ku2, ku3⟩ := u4.out.four
  go_wp2_with fail
  refine (K2.out _).mono ?_; rintro e w5 ⟨db, eb, dd, ed, rfl, hs, hh, hb⟩
  clear j0 j1 j2 j3 j4 j5 j6 j7 j8 j9
  clear kc0 kc1 kc2 kc3 ku0 ku1 ku2 ku3
  have A5 := Lib.hid ((A4.out.step hb).two (.cells #[.int .i64 T, .int .i64 H, .slice db xn dd, .slice eb yn ed] 27) (.cells #[.bool false, .int .i64 0, .int .i64 0, .int .i64 0] 32))
  have c5 := Lib.hid ((c4.out.step hb).step (below_2 w5 (.cells #[.int .i64 T, .int .i64 H, .slice db xn dd, .slice eb yn ed] 27) (.cells #[.bool false, .int .i64 0, .int .i64 0, .int .i64 0] 32)))
  have u5 := Lib.hid ((u4.out.step hb).step (below_2 w5 (.cells #[.int .i64 T, .int .i64 H, .slice db xn dd, .slice eb yn ed] 27) (.cells #[.bool false, .int .i64 0, .int .i64 0, .int .i64 0] 32)))
  have Sc5 := Lib.hid ((Sc4.out.below hb).below (below_2 w5 (.cells #[.int .i64 T, .int .i64 H, .slice db xn dd, .slice eb yn ed] 27) (.cells #[.bool false, .int .i64 0, .int .i64 0, .int .i64 0] 32)))
  have Hc5 := Lib.hid ((Hc4.out.below hb).below (below_2 w5 (.cells #[.int .i64 T, .int .i64 H, .slice db xn dd, .slice eb yn ed] 27) (.cells #[.bool false, .int .i64 0, .int .i64 0, .int .i64 0] 32)))
  have d5 := Lib.hid (made1 w5 27 [.int .i64 T, .int .i64 H, .slice db xn dd, .slice eb yn ed] (.cells #[.bool false, .int .i64 0, .int .i64 0, .int .i64 0] 32))
  have x5 := Lib.hid (made2 w5 32 27 [.bool false, .int .i64 0, .int .i64 0, .int .i64 0] (.cells #[.int .i64 T, .int .i64 H, .slice db xn dd, .slice eb yn ed] 27))
  have Sd5 := Lib.hid (hs.below (below_2 w5 (.cells #[.int .i64 T, .int .i64 H, .slice db xn dd, .slice eb yn ed] 27) (.cells #[.bool false, .int .i64 0, .int .i64 0, .int .i64 0] 32)))
  have Hd5 := Lib.hid (hh.below (below_2 w5 (.cells #[.int .i64 T, .int .i64 H, .slice db xn dd, .slice eb yn ed] 27) (.cells #[.bool false, .int .i64 0, .int .i64 0, .int .i64 0] 32)))
  clear hb hs hh A4 c4 u4 Sc4 Hc4
  obtain ⟨⟨j0, j1, j2, j3⟩, ⟨j4, j5, j6, j7⟩, j8, j9⟩ := A5.out.cells
  obtain ⟨kc0, kc1, kc2, kc3⟩ := c5.out.four
  obtain ⟨ku0, ku1, ku2, ku3⟩ := u5.out.four
  obtain ⟨kx0, kx1, kx2, kx3⟩ := x5.out.four
  obtain ⟨kd0, kd1, kd2, kd3⟩ := d5.out.four
  go_wp2_with fail
  refine (WK.out _).mono ?_; rintro e w' ⟨rfl, rfl⟩
  go_wp2_with fail
  refine (Same_eq a n da sa ea ha sn dc sc hn ec hc f g1 g2 _ Sc5.out (SW.out.below A5.out.be) Hc5.out (HW.out.below A5.out.be) F1.out F2.out).mono ?_; rintro e w6 ⟨rfl, hb⟩
  clear j0 j1 j2 j3 j4 j5 j6 j7 j8 j9
  clear kc0 kc1 kc2 kc3 ku0 ku1 ku2 ku3 kx0 kx1 kx2 kx3 kd0 kd1 kd2 kd3
  have A6 := Lib.hid (A5.out.step hb)
  have u6 := Lib.hid (u5.out.step hb)
  have x6 := Lib.hid (x5.out.step hb)
  obtain ⟨kx0, kx1, kx2, kx3⟩ := x6.out.four
  obtain ⟨ku0, ku1, ku2, ku3⟩ := u6.out.four
  obtain ⟨⟨j0, j1, j2, j3⟩, ⟨j4, j5, j6, j7⟩, j8, j9⟩ := A6.out.cells
  clear hb
  go_wp2_with fail
  refine (live_any _).mono ?_; rintro e wl ⟨rfl, hb⟩
  have AL := Lib.hid (A6.out.step hb)
  clear hb
  go_wp2_with fail
  go_ret
  exact ⟨rfl, AL.out.be⟩
end Go.Proofs.Ytgdcgilhaedbmaa.exactEnds
