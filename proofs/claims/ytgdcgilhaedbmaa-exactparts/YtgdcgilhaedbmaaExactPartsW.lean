/- The walk of the law ExactParts, over contracts that are handed in. WRITTEN BY gen_lparts.py. -/
import Derived.Test.YtgdcgilhaedbmaaRows
import Derived.Test.YtgdcgilhaedbmaaExLive
import Derived.Test.YtgdcgilhaedbmaaCel1
namespace Go.Proofs.Ytgdcgilhaedbmaa.exactParts
open Go.ChangeShapes Go.WideShapes Go.ChangeAt Go.RowKit
set_option linter.unusedVariables false

/-- The policy, the cell and the numbers, in three blocks. -/
structure At (w0 : World) (k l v b a n t m m' : Int) (x y : Value) (w : World) : Prop where
  p : Has w w0.heap.size 23 [.int .i64 k, .int .i64 l, .int .i64 v, .int .i64 b]
  c : Has w (w0.heap.size + 1) 27 [.int .i64 a, .int .i64 n, x, y]
  n : Has w (w0.heap.size + 1 + 1) 47 [.int .i64 t, .int .i64 m, .int .i64 m']
  be : Below w0.heap.size w0 w
theorem At.made (w : World) (k l v b a n t m m' : Int) (x y : Value) : At w k l v b a n t m m' x y (((w.alloc (.cells #[.int .i64 k, .int .i64 l, .int .i64 v, .int .i64 b] 23)).alloc (.cells #[.int .i64 a, .int .i64 n, x, y] 27)).alloc (.cells #[.int .i64 t, .int .i64 m, .int .i64 m'] 47)) := by
  refine ⟨((Has.made w 23 [.int .i64 k, .int .i64 l, .int .i64 v, .int .i64 b]).alloc _).alloc _, Has.alloc ?_ _, ?_, (((Below.refl _ _).alloc (Nat.le_refl _) _).alloc (by simp) _).alloc (by simp; omega) _⟩
  · have := Has.made (w.alloc (.cells #[.int .i64 k, .int .i64 l, .int .i64 v, .int .i64 b] 23)) 27 [.int .i64 a, .int .i64 n, x, y]
    simpa using this
  · have := Has.made ((w.alloc (.cells #[.int .i64 k, .int .i64 l, .int .i64 v, .int .i64 b] 23)).alloc (.cells #[.int .i64 a, .int .i64 n, x, y] 27)) 47 [.int .i64 t, .int .i64 m, .int .i64 m']
    simpa using this
theorem At.step {w0 w w' : World} {k l v b a n t m m' : Int} {x y : Value} (h : At w0 k l v b a n t m m' x y w) (hb : Below w.heap.size w w') : At w0 k l v b a n t m m' x y w' :=
  ⟨h.p.step hb, h.c.step hb, h.n.step hb, h.be.trans (hb.mono h.be.size)⟩
theorem At.two {w0 w : World} {k l v b a n t m m' : Int} {x y : Value} (h : At w0 k l v b a n t m m' x y w) (o o' : Obj) : At w0 k l v b a n t m m' x y ((w.alloc o).alloc o') :=
  (h.step ((Below.refl _ _).alloc (Nat.le_refl _) o)).step ((Below.refl _ _).alloc (Nat.le_refl _) o')
theorem At.cells {w0 w : World} {k l v b a n t m m' : Int} {x y : Value} (h : At w0 k l v b a n t m m' x y w) :
    (w.cell? ⟨w0.heap.size, 0, none⟩ = some (.int .i64 k) ∧ w.cell? ⟨w0.heap.size, 1, none⟩ = some (.int .i64 l) ∧ w.cell? ⟨w0.heap.size, 2, none⟩ = some (.int .i64 v) ∧ w.cell? ⟨w0.heap.size, 3, none⟩ = some (.int .i64 b)) ∧
    (w.cell? ⟨w0.heap.size + 1, 0, none⟩ = some (.int .i64 a) ∧ w.cell? ⟨w0.heap.size + 1, 1, none⟩ = some (.int .i64 n) ∧ w.cell? ⟨w0.heap.size + 1, 2, none⟩ = some x ∧ w.cell? ⟨w0.heap.size + 1, 3, none⟩ = some y) ∧
    (w.cell? ⟨w0.heap.size + 1 + 1, 0, none⟩ = some (.int .i64 t) ∧ w.cell? ⟨w0.heap.size + 1 + 1, 1, none⟩ = some (.int .i64 m) ∧ w.cell? ⟨w0.heap.size + 1 + 1, 2, none⟩ = some (.int .i64 m')) :=
  ⟨h.p.four, h.c.four, h.n.cell 0, h.n.cell 1, h.n.cell 2⟩
theorem below_2 (w : World) (o o' : Obj) : Below w.heap.size w ((w.alloc o).alloc o') := ((Below.refl _ _).alloc (Nat.le_refl _) _).alloc (by simp) _

set_option maxRecDepth 100000 in
set_option maxHeartbeats 4000000 in
theorem n0 (k l v b a n t m m' : Int) (sa ha : Option Addr) (sn sc hn hc : Nat) (W : World) (h : ¬ (sn ≤ 40 ∧ hn ≤ 40)) (q1 : sn ≤ maxLen) (q2 : hn ≤ maxLen) : Calls Try.prog 7 #[.agg #[.int .i64 k, .int .i64 l, .int .i64 v, .int .i64 b], .agg #[.int .i64 a, .int .i64 n, .slice sa sn sc, .slice ha hn hc], .agg #[.int .i64 t, .int .i64 m, .int .i64 m']] W fun e w' => e = .returned (.bool true) ∧ Below W.heap.size W w' := by
  have A0 := Lib.hid (At.made W k l v b a n t m m' (.slice sa sn sc) (.slice ha hn hc))
  have FW := Lib.hid (fun u => Few_no a n sa ha sn sc hn hc u h q1 q2)
  clear h q1 q2
  go_enter Try.func7, Try.ntmps7
  go_wp2_with fail
  refine (FW.out _).mono ?_; rintro e w1 ⟨rfl, hb⟩
  have A1 := Lib.hid (A0.out.step hb)
  clear hb A0
  go_wp2_with fail
  refine (live_any _).mono ?_; rintro e wl ⟨rfl, hb⟩
  have AL := Lib.hid (A1.out.step hb)
  clear hb
  go_wp2_with fail
  go_ret
  exact ⟨rfl, AL.out.be⟩

set_option maxRecDepth 100000 in
set_option maxHeartbeats 4000000 in
theorem n1 (k l v b a n t m m' : Int) (sa ha : Option Addr) (sn sc hn hc : Nat) (W : World) (f1 : sn ≤ 40) (f2 : hn ≤ 40) (MK : ∀ u, Below W.heap.size W u → Calls Try.prog 14 #[.agg #[.int .i64 k, .int .i64 l, .int .i64 v, .int .i64 b], .agg #[.int .i64 a, .int .i64 n, .slice sa sn sc, .slice ha hn hc]] u fun e w' => e = .returned (.bool false) ∧ Below u.heap.size u w') : Calls Try.prog 7 #[.agg #[.int .i64 k, .int .i64 l, .int .i64 v, .int .i64 b], .agg #[.int .i64 a, .int .i64 n, .slice sa sn sc, .slice ha hn hc], .agg #[.int .i64 t, .int .i64 m, .int .i64 m']] W fun e w' => e = .returned (.bool true) ∧ Below W.heap.size W w' := by
  have A0 := Lib.hid (At.made W k l v b a n t m m' (.slice sa sn sc) (.slice ha hn hc))
  have FW := Lib.hid (fun u => Few_yes a n sa ha sn sc hn hc u f1 f2)
  replace MK := Lib.hid MK
  clear f1 f2
  go_enter Try.func7, Try.ntmps7
  go_wp2_with fail
  refine (FW.out _).mono ?_; rintro e w1 ⟨rfl, hb⟩
  have A1 := Lib.hid (A0.out.step hb)
  clear hb A0
  obtain ⟨⟨j0, j1, j2, j3⟩, ⟨j4, j5, j6, j7⟩, j8, j9, j10⟩ := A1.out.cells
  go_wp2_with fail
  refine (MK.out _ A1.out.be).mono ?_; rintro e w2 ⟨rfl, hb⟩
  clear j0 j1 j2 j3 j4 j5 j6 j7 j8 j9 j10
  have A2 := Lib.hid (A1.out.step hb)
  clear hb A1
  go_wp2_with fail
  refine (live_any _).mono ?_; rintro e wl ⟨rfl, hb⟩
  have AL := Lib.hid (A2.out.step hb)
  clear hb
  go_wp2_with fail
  go_ret
  exact ⟨rfl, AL.out.be⟩

set_option maxRecDepth 100000 in
set_option maxHeartbeats 4000000 in
theorem n2 (k l v b a n t m m' : Int) (sa ha : Option Addr) (sn sc hn hc : Nat) (W : World) (f1 : sn ≤ 40) (f2 : hn ≤ 40) (MK : ∀ u, Below W.heap.size W u → Calls Try.prog 14 #[.agg #[.int .i64 k, .int .i64 l, .int .i64 v, .int .i64 b], .agg #[.int .i64 a, .int .i64 n, .slice sa sn sc, .slice ha hn hc]] u fun e w' => e = .returned (.bool true) ∧ Below u.heap.size u w') (x : ¬ (1 ≤ m ∧ m ≤ 1048576)) : Calls Try.prog 7 #[.agg #[.int .i64 k, .int .i64 l, .int .i64 v, .int .i64 b], .agg #[.int .i64 a, .int .i64 n, .slice sa sn sc, .slice ha hn hc], .agg #[.int .i64 t, .int .i64 m, .int .i64 m']] W fun e w' => e = .returned (.bool true) ∧ Below W.heap.size W w' := by
  have A0 := Lib.hid (At.made W k l v b a n t m m' (.slice sa sn sc) (.slice ha hn hc))
  have FW := Lib.hid (fun u => Few_yes a n sa ha sn sc hn hc u f1 f2)
  replace MK := Lib.hid MK
  have W1 := Lib.hid (fun u => rWeighs_no m u x)
  clear f1 f2 x
  go_enter Try.func7, Try.ntmps7
  go_wp2_with fail
  refine (FW.out _).mono ?_; rintro e w1 ⟨rfl, hb⟩
  have A1 := Lib.hid (A0.out.step hb)
  clear hb A0
  obtain ⟨⟨j0, j1, j2, j3⟩, ⟨j4, j5, j6, j7⟩, j8, j9, j10⟩ := A1.out.cells
  go_wp2_with fail
  refine (MK.out _ A1.out.be).mono ?_; rintro e w2 ⟨rfl, hb⟩
  clear j0 j1 j2 j3 j4 j5 j6 j7 j8 j9 j10
  have A2 := Lib.hid (A1.out.step hb)
  clear hb A1
  obtain ⟨⟨j0, j1, j2, j3⟩, ⟨j4, j5, j6, j7⟩, j8, j9, j10⟩ := A2.out.cells
  go_wp2_with fail
  refine (W1.out _).mono ?_; rintro e w' ⟨rfl, rfl⟩
  go_wp2_with fail
  refine (live_any _).mono ?_; rintro e wl ⟨rfl, hb⟩
  have AL := Lib.hid (A2.out.step hb)
  clear hb
  go_wp2_with fail
  go_ret
  exact ⟨rfl, AL.out.be⟩

set_option maxRecDepth 100000 in
set_option maxHeartbeats 4000000 in
theorem n3 (k l v b a n t m m' : Int) (sa ha : Option Addr) (sn sc hn hc : Nat) (W : World) (f1 : sn ≤ 40) (f2 : hn ≤ 40) (MK : ∀ u, Below W.heap.size W u → Calls Try.prog 14 #[.agg #[.int .i64 k, .int .i64 l, .int .i64 v, .int .i64 b], .agg #[.int .i64 a, .int .i64 n, .slice sa sn sc, .slice ha hn hc]] u fun e w' => e = .returned (.bool true) ∧ Below u.heap.size u w') (x1 : 1 ≤ m) (x2 : m ≤ 1048576) (y : ¬ (1 ≤ m' ∧ m' ≤ 1048576)) : Calls Try.prog 7 #[.agg #[.int .i64 k, .int .i64 l, .int .i64 v, .int .i64 b], .agg #[.int .i64 a, .int .i64 n, .slice sa sn sc, .slice ha hn hc], .agg #[.int .i64 t, .int .i64 m, .int .i64 m']] W fun e w' => e = .returned (.bool true) ∧ Below W.heap.size W w' := by
  have A0 := Lib.hid (At.made W k l v b a n t m m' (.slice sa sn sc) (.slice ha hn hc))
  have FW := Lib.hid (fun u => Few_yes a n sa ha sn sc hn hc u f1 f2)
  replace MK := Lib.hid MK
  have W1 := Lib.hid (fun u => rWeighs_yes m u x1 x2)
  have W2 := Lib.hid (fun u => rWeighs_no m' u y)
  clear f1 f2 y
  go_enter Try.func7, Try.ntmps7
  go_wp2_with fail
  refine (FW.out _).mono ?_; rintro e w1 ⟨rfl, hb⟩
  have A1 := Lib.hid (A0.out.step hb)
  clear hb A0
  obtain ⟨⟨j0, j1, j2, j3⟩, ⟨j4, j5, j6, j7⟩, j8, j9, j10⟩ := A1.out.cells
  go_wp2_with fail
  refine (MK.out _ A1.out.be).mono ?_; rintro e w2 ⟨rfl, hb⟩
  clear j0 j1 j2 j3 j4 j5 j6 j7 j8 j9 j10
  have A2 := Lib.hid (A1.out.step hb)
  clear hb A1
  obtain ⟨⟨j0, j1, j2, j3⟩, ⟨j4, j5, j6, j7⟩, j8, j9, j10⟩ := A2.out.cells
  go_wp2_with fail
  refine (W1.out _).mono ?_; rintro e w' ⟨rfl, rfl⟩
  go_wp2_with fail
  refine (W2.out _).mono ?_; rintro e w' ⟨rfl, rfl⟩
  go_wp2_with fail
  refine (live_any _).mono ?_; rintro e wl ⟨rfl, hb⟩
  have AL := Lib.hid (A2.out.step hb)
  clear hb
  go_wp2_with fail
  go_ret
  exact ⟨rfl, AL.out.be⟩

set_option maxRecDepth 100000 in
set_option maxHeartbeats 4000000 in
theorem n4 (k l v b a n t m m' : Int) (sa ha : Option Addr) (sn sc hn hc : Nat) (W : World) (f1 : sn ≤ 40) (f2 : hn ≤ 40) (MK : ∀ u, Below W.heap.size W u → Calls Try.prog 14 #[.agg #[.int .i64 k, .int .i64 l, .int .i64 v, .int .i64 b], .agg #[.int .i64 a, .int .i64 n, .slice sa sn sc, .slice ha hn hc]] u fun e w' => e = .returned (.bool true) ∧ Below u.heap.size u w') (x1 : 1 ≤ m) (x2 : m ≤ 1048576) (y1 : 1 ≤ m') (y2 : m' ≤ 1048576) (z : ¬ (1 ≤ (m + m') ∧ (m + m') ≤ 1048576)) : Calls Try.prog 7 #[.agg #[.int .i64 k, .int .i64 l, .int .i64 v, .int .i64 b], .agg #[.int .i64 a, .int .i64 n, .slice sa sn sc, .slice ha hn hc], .agg #[.int .i64 t, .int .i64 m, .int .i64 m']] W fun e w' => e = .returned (.bool true) ∧ Below W.heap.size W w' := by
  have A0 := Lib.hid (At.made W k l v b a n t m m' (.slice sa sn sc) (.slice ha hn hc))
  have FW := Lib.hid (fun u => Few_yes a n sa ha sn sc hn hc u f1 f2)
  replace MK := Lib.hid MK
  have W1 := Lib.hid (fun u => rWeighs_yes m u x1 x2)
  have W2 := Lib.hid (fun u => rWeighs_yes m' u y1 y2)
  have W3 := Lib.hid (fun u => rWeighs_no (m + m') u z)
  clear f1 f2 z
  go_enter Try.func7, Try.ntmps7
  go_wp2_with fail
  refine (FW.out _).mono ?_; rintro e w1 ⟨rfl, hb⟩
  have A1 := Lib.hid (A0.out.step hb)
  clear hb A0
  obtain ⟨⟨j0, j1, j2, j3⟩, ⟨j4, j5, j6, j7⟩, j8, j9, j10⟩ := A1.out.cells
  go_wp2_with fail
  refine (MK.out _ A1.out.be).mono ?_; rintro e w2 ⟨rfl, hb⟩
  clear j0 j1 j2 j3 j4 j5 j6 j7 j8 j9 j10
  have A2 := Lib.hid (A1.out.step hb)
  clear hb A1
  obtain ⟨⟨j0, j1, j2, j3⟩, ⟨j4, j5, j6, j7⟩, j8, j9, j10⟩ := A2.out.cells
  go_wp2_with fail
  refine (W1.out _).mono ?_; rintro e w' ⟨rfl, rfl⟩
  go_wp2_with fail
  refine (W2.out _).mono ?_; rintro e w' ⟨rfl, rfl⟩
  go_wp2_with fail
  refine (W3.out _).mono ?_; rintro e w' ⟨rfl, rfl⟩
  go_wp2_with fail
  refine (live_any _).mono ?_; rintro e wl ⟨rfl, hb⟩
  have AL := Lib.hid (A2.out.step hb)
  clear hb
  go_wp2_with fail
  go_ret
  exact ⟨rfl, AL.out.be⟩

set_option maxRecDepth 100000 in
set_option maxHeartbeats 4000000 in
theorem n5 (k l v b a n t m m' : Int) (sa ha : Option Addr) (sn sc hn hc : Nat) (W : World) (f1 : sn ≤ 40) (f2 : hn ≤ 40) (MK : ∀ u, Below W.heap.size W u → Calls Try.prog 14 #[.agg #[.int .i64 k, .int .i64 l, .int .i64 v, .int .i64 b], .agg #[.int .i64 a, .int .i64 n, .slice sa sn sc, .slice ha hn hc]] u fun e w' => e = .returned (.bool true) ∧ Below u.heap.size u w') (x1 : 1 ≤ m) (x2 : m ≤ 1048576) (y1 : 1 ≤ m') (y2 : m' ≤ 1048576) (z1 : 1 ≤ (m + m')) (z2 : (m + m') ≤ 1048576) (ht : ¬ (0 ≤ t ∧ t ≤ 1099511627776)) : Calls Try.prog 7 #[.agg #[.int .i64 k, .int .i64 l, .int .i64 v, .int .i64 b], .agg #[.int .i64 a, .int .i64 n, .slice sa sn sc, .slice ha hn hc], .agg #[.int .i64 t, .int .i64 m, .int .i64 m']] W fun e w' => e = .returned (.bool true) ∧ Below W.heap.size W w' := by
  have A0 := Lib.hid (At.made W k l v b a n t m m' (.slice sa sn sc) (.slice ha hn hc))
  have FW := Lib.hid (fun u => Few_yes a n sa ha sn sc hn hc u f1 f2)
  replace MK := Lib.hid MK
  have W1 := Lib.hid (fun u => rWeighs_yes m u x1 x2)
  have W2 := Lib.hid (fun u => rWeighs_yes m' u y1 y2)
  have W3 := Lib.hid (fun u => rWeighs_yes (m + m') u z1 z2)
  clear f1 f2
  go_enter Try.func7, Try.ntmps7
  go_wp2_with fail
  refine (FW.out _).mono ?_; rintro e w1 ⟨rfl, hb⟩
  have A1 := Lib.hid (A0.out.step hb)
  clear hb A0
  obtain ⟨⟨j0, j1, j2, j3⟩, ⟨j4, j5, j6, j7⟩, j8, j9, j10⟩ := A1.out.cells
  go_wp2_with fail
  refine (MK.out _ A1.out.be).mono ?_; rintro e w2 ⟨rfl, hb⟩
  clear j0 j1 j2 j3 j4 j5 j6 j7 j8 j9 j10
  have A2 := Lib.hid (A1.out.step hb)
  clear hb A1
  obtain ⟨⟨j0, j1, j2, j3⟩, ⟨j4, j5, j6, j7⟩, j8, j9, j10⟩ := A2.out.cells
  go_wp2_with fail
  refine (W1.out _).mono ?_; rintro e w' ⟨rfl, rfl⟩
  go_wp2_with fail
  refine (W2.out _).mono ?_; rintro e w' ⟨rfl, rfl⟩
  go_wp2_with fail
  refine (W3.out _).mono ?_; rintro e w' ⟨rfl, rfl⟩
  by_cases ht0 : t < 0
  · clear ht
    go_wp2_with fail
    refine (live_any _).mono ?_; rintro e wl ⟨rfl, hb⟩
    have AL := Lib.hid (A2.out.step hb)
    clear hb
    go_wp2_with fail
    go_ret
    exact ⟨rfl, AL.out.be⟩
  · have ht1 : 1099511627776 < t := by omega
    clear ht
    go_wp2_with fail
    refine (live_any _).mono ?_; rintro e wl ⟨rfl, hb⟩
    have AL := Lib.hid (A2.out.step hb)
    clear hb
    go_wp2_with fail
    go_ret
    exact ⟨rfl, AL.out.be⟩

set_option maxRecDepth 100000 in
set_option maxHeartbeats 4000000 in
theorem y_tt (k l v b a n t m m' : Int) (sa ha : Option Addr) (sn sc hn hc : Nat) (W : World) (f1 : sn ≤ 40) (f2 : hn ≤ 40) (MK : ∀ u, Below W.heap.size W u → Calls Try.prog 14 #[.agg #[.int .i64 k, .int .i64 l, .int .i64 v, .int .i64 b], .agg #[.int .i64 a, .int .i64 n, .slice sa sn sc, .slice ha hn hc]] u fun e w' => e = .returned (.bool true) ∧ Below u.heap.size u w') (x1 : 1 ≤ m) (x2 : m ≤ 1048576) (y1 : 1 ≤ m') (y2 : m' ≤ 1048576) (z1 : 1 ≤ (m + m')) (z2 : (m + m') ≤ 1048576) (t1 : 0 ≤ t) (t2 : t ≤ 1099511627776) (T1 H1 T2 H2 : Int) (xn1 yn1 xn2 yn2 : Nat) (f1' g11 g12 f2' g21 g22 : Nat → Int) (rm1 rt1 rs1 rm2 rt2 rs2 : Int) (x40 : xn2 ≤ 40) (y40 : yn2 ≤ 40)
    (K1 : ∀ u, Below W.heap.size W u → Calls Try.prog 10 #[.agg #[.int .i64 k, .int .i64 l, .int .i64 v, .int .i64 b], .agg #[.int .i64 a, .int .i64 n, .slice sa sn sc, .slice ha hn hc], .int .i64 t, .int .i64 m] u (TellsH T1 H1 xn1 f1' yn1 g11 g12 true rm1 rt1 rs1 u))
    (K2 : ∀ a1 e1 c1 d1 u, (yn1 ≤ d1 ∧ d1 ≤ maxLen) → SumsAt u a1 xn1 f1' → HitsAt u e1 yn1 g11 g12 → Calls Try.prog 10 #[.agg #[.int .i64 k, .int .i64 l, .int .i64 v, .int .i64 b], .agg #[.int .i64 T1, .int .i64 H1, .slice a1 xn1 c1, .slice e1 yn1 d1], .int .i64 t, .int .i64 m'] u (Tells T2 H2 xn2 f2' yn2 g21 g22 true rm2 rt2 rs2 u))
    (K3 : ∀ u, Below W.heap.size W u → Calls Try.prog 10 #[.agg #[.int .i64 k, .int .i64 l, .int .i64 v, .int .i64 b], .agg #[.int .i64 a, .int .i64 n, .slice sa sn sc, .slice ha hn hc], .int .i64 t, .int .i64 (m + m')] u (Tells T2 H2 xn2 f2' yn2 g21 g22 true rm2 rt2 rs2 u)) : Calls Try.prog 7 #[.agg #[.int .i64 k, .int .i64 l, .int .i64 v, .int .i64 b], .agg #[.int .i64 a, .int .i64 n, .slice sa sn sc, .slice ha hn hc], .agg #[.int .i64 t, .int .i64 m, .int .i64 m']] W fun e w' => e = .returned (.bool true) ∧ Below W.heap.size W w' := by
  have A0 := Lib.hid (At.made W k l v b a n t m m' (.slice sa sn sc) (.slice ha hn hc))
  have FW := Lib.hid (fun u => Few_yes a n sa ha sn sc hn hc u f1 f2)
  replace MK := Lib.hid MK
  have W1 := Lib.hid (fun u => rWeighs_yes m u x1 x2)
  have W2 := Lib.hid (fun u => rWeighs_yes m' u y1 y2)
  have W3 := Lib.hid (fun u => rWeighs_yes (m + m') u z1 z2)
  replace K1 := Lib.hid K1
  replace K2 := Lib.hid K2
  replace K3 := Lib.hid K3
  clear f1 f2
  go_enter Try.func7, Try.ntmps7
  go_wp2_with fail
  refine (FW.out _).mono ?_; rintro e w1 ⟨rfl, hb⟩
  have A1 := Lib.hid (A0.out.step hb)
  clear hb A0
  obtain ⟨⟨j0, j1, j2, j3⟩, ⟨j4, j5, j6, j7⟩, j8, j9, j10⟩ := A1.out.cells
  go_wp2_with fail
  refine (MK.out _ A1.out.be).mono ?_; rintro e w2 ⟨rfl, hb⟩
  clear j0 j1 j2 j3 j4 j5 j6 j7 j8 j9 j10
  have A2 := Lib.hid (A1.out.step hb)
  clear hb A1
  obtain ⟨⟨j0, j1, j2, j3⟩, ⟨j4, j5, j6, j7⟩, j8, j9, j10⟩ := A2.out.cells
  go_wp2_with fail
  refine (W1.out _).mono ?_; rintro e w' ⟨rfl, rfl⟩
  go_wp2_with fail
  refine (W2.out _).mono ?_; rintro e w' ⟨rfl, rfl⟩
  go_wp2_with fail
  refine (W3.out _).mono ?_; rintro e w' ⟨rfl, rfl⟩
  clear j0 j1 j2 j3 j4 j5 j6 j7 j8 j9 j10
  obtain ⟨⟨j0, j1, j2, j3⟩, ⟨j4, j5, j6, j7⟩, j8, j9, j10⟩ := A2.out.cells
  go_wp2_with fail
  refine (K1.out _ A2.out.be).mono ?_; rintro e w3 ⟨a1, e1, c1, d1, hcap, rfl, hs, hh, hb⟩
  clear j0 j1 j2 j3 j4 j5 j6 j7 j8 j9 j10
  replace hcap := Lib.hid hcap
  have A3 := Lib.hid ((A2.out.step hb).two (.cells #[.int .i64 T1, .int .i64 H1, .slice a1 xn1 c1, .slice e1 yn1 d1] 27) (.cells #[.bool true, .int .i64 rm1, .int .i64 rt1, .int .i64 rs1] 32))
  have c3 := Lib.hid (made1 w3 27 [.int .i64 T1, .int .i64 H1, .slice a1 xn1 c1, .slice e1 yn1 d1] (.cells #[.bool true, .int .i64 rm1, .int .i64 rt1, .int .i64 rs1] 32))
  have u3 := Lib.hid (made2 w3 32 27 [.bool true, .int .i64 rm1, .int .i64 rt1, .int .i64 rs1] (.cells #[.int .i64 T1, .int .i64 H1, .slice a1 xn1 c1, .slice e1 yn1 d1] 27))
  have Sc3 := Lib.hid (hs.below (below_2 w3 (.cells #[.int .i64 T1, .int .i64 H1, .slice a1 xn1 c1, .slice e1 yn1 d1] 27) (.cells #[.bool true, .int .i64 rm1, .int .i64 rt1, .int .i64 rs1] 32)))
  have Hc3 := Lib.hid (hh.below (below_2 w3 (.cells #[.int .i64 T1, .int .i64 H1, .slice a1 xn1 c1, .slice e1 yn1 d1] 27) (.cells #[.bool true, .int .i64 rm1, .int .i64 rt1, .int .i64 rs1] 32)))
  clear hb hs hh A2
  obtain ⟨⟨j0, j1, j2, j3⟩, ⟨j4, j5, j6, j7⟩, j8, j9, j10⟩ := A3.out.cells
  obtain ⟨kc0, kc1, kc2, kc3⟩ := c3.out.four
  obtain ⟨ku0, ku1, ku2, ku3⟩ := u3.out.four
  go_wp2_with fail
  refine (K2.out _ _ _ _ _ hcap.out Sc3.out Hc3.out).mono ?_; rintro e w4 ⟨a2, e2, c2, d2, rfl, hs, hh, hb⟩
  clear j0 j1 j2 j3 j4 j5 j6 j7 j8 j9 j10
  clear kc0 kc1 kc2 kc3 ku0 ku1 ku2 ku3
  have A4 := Lib.hid ((A3.out.step hb).two (.cells #[.int .i64 T2, .int .i64 H2, .slice a2 xn2 c2, .slice e2 yn2 d2] 27) (.cells #[.bool true, .int .i64 rm2, .int .i64 rt2, .int .i64 rs2] 32))
  have c4 := Lib.hid ((c3.out.step hb).step (below_2 w4 (.cells #[.int .i64 T2, .int .i64 H2, .slice a2 xn2 c2, .slice e2 yn2 d2] 27) (.cells #[.bool true, .int .i64 rm2, .int .i64 rt2, .int .i64 rs2] 32)))
  have u4 := Lib.hid ((u3.out.step hb).step (below_2 w4 (.cells #[.int .i64 T2, .int .i64 H2, .slice a2 xn2 c2, .slice e2 yn2 d2] 27) (.cells #[.bool true, .int .i64 rm2, .int .i64 rt2, .int .i64 rs2] 32)))
  have Sc4 := Lib.hid ((Sc3.out.below hb).below (below_2 w4 (.cells #[.int .i64 T2, .int .i64 H2, .slice a2 xn2 c2, .slice e2 yn2 d2] 27) (.cells #[.bool true, .int .i64 rm2, .int .i64 rt2, .int .i64 rs2] 32)))
  have Hc4 := Lib.hid ((Hc3.out.below hb).below (below_2 w4 (.cells #[.int .i64 T2, .int .i64 H2, .slice a2 xn2 c2, .slice e2 yn2 d2] 27) (.cells #[.bool true, .int .i64 rm2, .int .i64 rt2, .int .i64 rs2] 32)))
  have d4 := Lib.hid (made1 w4 27 [.int .i64 T2, .int .i64 H2, .slice a2 xn2 c2, .slice e2 yn2 d2] (.cells #[.bool true, .int .i64 rm2, .int .i64 rt2, .int .i64 rs2] 32))
  have x4 := Lib.hid (made2 w4 32 27 [.bool true, .int .i64 rm2, .int .i64 rt2, .int .i64 rs2] (.cells #[.int .i64 T2, .int .i64 H2, .slice a2 xn2 c2, .slice e2 yn2 d2] 27))
  have Sd4 := Lib.hid (hs.below (below_2 w4 (.cells #[.int .i64 T2, .int .i64 H2, .slice a2 xn2 c2, .slice e2 yn2 d2] 27) (.cells #[.bool true, .int .i64 rm2, .int .i64 rt2, .int .i64 rs2] 32)))
  have Hd4 := Lib.hid (hh.below (below_2 w4 (.cells #[.int .i64 T2, .int .i64 H2, .slice a2 xn2 c2, .slice e2 yn2 d2] 27) (.cells #[.bool true, .int .i64 rm2, .int .i64 rt2, .int .i64 rs2] 32)))
  clear hb hs hh A3 c3 u3 Sc3 Hc3
  obtain ⟨⟨j0, j1, j2, j3⟩, ⟨j4, j5, j6, j7⟩, j8, j9, j10⟩ := A4.out.cells
  obtain ⟨kc0, kc1, kc2, kc3⟩ := c4.out.four
  obtain ⟨ku0, ku1, ku2, ku3⟩ := u4.out.four
  obtain ⟨kd0, kd1, kd2, kd3⟩ := d4.out.four
  obtain ⟨kx0, kx1, kx2, kx3⟩ := x4.out.four
  go_wp2_with fail
  refine (K3.out _ A4.out.be).mono ?_; rintro e w5 ⟨a3, e3, c3, d3, rfl, hs, hh, hb⟩
  clear j0 j1 j2 j3 j4 j5 j6 j7 j8 j9 j10
  clear kc0 kc1 kc2 kc3 ku0 ku1 ku2 ku3 kd0 kd1 kd2 kd3 kx0 kx1 kx2 kx3
  have A5 := Lib.hid ((A4.out.step hb).two (.cells #[.int .i64 T2, .int .i64 H2, .slice a3 xn2 c3, .slice e3 yn2 d3] 27) (.cells #[.bool true, .int .i64 rm2, .int .i64 rt2, .int .i64 rs2] 32))
  have c5 := Lib.hid ((c4.out.step hb).step (below_2 w5 (.cells #[.int .i64 T2, .int .i64 H2, .slice a3 xn2 c3, .slice e3 yn2 d3] 27) (.cells #[.bool true, .int .i64 rm2, .int .i64 rt2, .int .i64 rs2] 32)))
  have u5 := Lib.hid ((u4.out.step hb).step (below_2 w5 (.cells #[.int .i64 T2, .int .i64 H2, .slice a3 xn2 c3, .slice e3 yn2 d3] 27) (.cells #[.bool true, .int .i64 rm2, .int .i64 rt2, .int .i64 rs2] 32)))
  have d5 := Lib.hid ((d4.out.step hb).step (below_2 w5 (.cells #[.int .i64 T2, .int .i64 H2, .slice a3 xn2 c3, .slice e3 yn2 d3] 27) (.cells #[.bool true, .int .i64 rm2, .int .i64 rt2, .int .i64 rs2] 32)))
  have x5 := Lib.hid ((x4.out.step hb).step (below_2 w5 (.cells #[.int .i64 T2, .int .i64 H2, .slice a3 xn2 c3, .slice e3 yn2 d3] 27) (.cells #[.bool true, .int .i64 rm2, .int .i64 rt2, .int .i64 rs2] 32)))
  have Sc5 := Lib.hid ((Sc4.out.below hb).below (below_2 w5 (.cells #[.int .i64 T2, .int .i64 H2, .slice a3 xn2 c3, .slice e3 yn2 d3] 27) (.cells #[.bool true, .int .i64 rm2, .int .i64 rt2, .int .i64 rs2] 32)))
  have Hc5 := Lib.hid ((Hc4.out.below hb).below (below_2 w5 (.cells #[.int .i64 T2, .int .i64 H2, .slice a3 xn2 c3, .slice e3 yn2 d3] 27) (.cells #[.bool true, .int .i64 rm2, .int .i64 rt2, .int .i64 rs2] 32)))
  have Sd5 := Lib.hid ((Sd4.out.below hb).below (below_2 w5 (.cells #[.int .i64 T2, .int .i64 H2, .slice a3 xn2 c3, .slice e3 yn2 d3] 27) (.cells #[.bool true, .int .i64 rm2, .int .i64 rt2, .int .i64 rs2] 32)))
  have Hd5 := Lib.hid ((Hd4.out.below hb).below (below_2 w5 (.cells #[.int .i64 T2, .int .i64 H2, .slice a3 xn2 c3, .slice e3 yn2 d3] 27) (.cells #[.bool true, .int .i64 rm2, .int .i64 rt2, .int .i64 rs2] 32)))
  have f5 := Lib.hid (made1 w5 27 [.int .i64 T2, .int .i64 H2, .slice a3 xn2 c3, .slice e3 yn2 d3] (.cells #[.bool true, .int .i64 rm2, .int .i64 rt2, .int .i64 rs2] 32))
  have z5 := Lib.hid (made2 w5 32 27 [.bool true, .int .i64 rm2, .int .i64 rt2, .int .i64 rs2] (.cells #[.int .i64 T2, .int .i64 H2, .slice a3 xn2 c3, .slice e3 yn2 d3] 27))
  have Sf5 := Lib.hid (hs.below (below_2 w5 (.cells #[.int .i64 T2, .int .i64 H2, .slice a3 xn2 c3, .slice e3 yn2 d3] 27) (.cells #[.bool true, .int .i64 rm2, .int .i64 rt2, .int .i64 rs2] 32)))
  have Hf5 := Lib.hid (hh.below (below_2 w5 (.cells #[.int .i64 T2, .int .i64 H2, .slice a3 xn2 c3, .slice e3 yn2 d3] 27) (.cells #[.bool true, .int .i64 rm2, .int .i64 rt2, .int .i64 rs2] 32)))
  clear hb hs hh A4 c4 u4 d4 x4 Sc4 Hc4 Sd4 Hd4
  obtain ⟨ku0, ku1, ku2, ku3⟩ := u5.out.four
  obtain ⟨kd0, kd1, kd2, kd3⟩ := d5.out.four
  obtain ⟨kx0, kx1, kx2, kx3⟩ := x5.out.four
  obtain ⟨kf0, kf1, kf2, kf3⟩ := f5.out.four
  obtain ⟨kz0, kz1, kz2, kz3⟩ := z5.out.four
  go_wp2_with fail
  refine (Same_eq T2 H2 a2 a3 e2 e3 xn2 c2 c3 yn2 d2 d3 f2' g21 g22 _ Sd5.out Sf5.out Hd5.out Hf5.out x40 y40).mono ?_; rintro e w6 ⟨rfl, hb⟩
  clear ku0 ku1 ku2 ku3 kd0 kd1 kd2 kd3 kx0 kx1 kx2 kx3 kf0 kf1 kf2 kf3 kz0 kz1 kz2 kz3
  have A6 := Lib.hid (A5.out.step hb)
  have x6 := Lib.hid (x5.out.step hb)
  have z6 := Lib.hid (z5.out.step hb)
  obtain ⟨kx0, kx1, kx2, kx3⟩ := x6.out.four
  obtain ⟨kz0, kz1, kz2, kz3⟩ := z6.out.four
  clear hb
  go_wp2_with fail
  refine (live_any _).mono ?_; rintro e wl ⟨rfl, hb⟩
  have AL := Lib.hid (A6.out.step hb)
  clear hb
  go_wp2_with fail
  go_ret
  exact ⟨rfl, AL.out.be⟩

set_option maxRecDepth 100000 in
set_option maxHeartbeats 4000000 in
theorem y_tf (k l v b a n t m m' : Int) (sa ha : Option Addr) (sn sc hn hc : Nat) (W : World) (f1 : sn ≤ 40) (f2 : hn ≤ 40) (MK : ∀ u, Below W.heap.size W u → Calls Try.prog 14 #[.agg #[.int .i64 k, .int .i64 l, .int .i64 v, .int .i64 b], .agg #[.int .i64 a, .int .i64 n, .slice sa sn sc, .slice ha hn hc]] u fun e w' => e = .returned (.bool true) ∧ Below u.heap.size u w') (x1 : 1 ≤ m) (x2 : m ≤ 1048576) (y1 : 1 ≤ m') (y2 : m' ≤ 1048576) (z1 : 1 ≤ (m + m')) (z2 : (m + m') ≤ 1048576) (t1 : 0 ≤ t) (t2 : t ≤ 1099511627776) (T1 H1 T2 H2 T3 H3 : Int) (xn1 yn1 xn2 yn2 xn3 yn3 : Nat) (f1' g11 g12 f2' g21 g22 f3' g31 g32 : Nat → Int) (rm1 rt1 rs1 rm2 rt2 rs2 rm3 rt3 rs3 : Int)
    (K1 : ∀ u, Below W.heap.size W u → Calls Try.prog 10 #[.agg #[.int .i64 k, .int .i64 l, .int .i64 v, .int .i64 b], .agg #[.int .i64 a, .int .i64 n, .slice sa sn sc, .slice ha hn hc], .int .i64 t, .int .i64 m] u (TellsH T1 H1 xn1 f1' yn1 g11 g12 true rm1 rt1 rs1 u))
    (K2 : ∀ a1 e1 c1 d1 u, (yn1 ≤ d1 ∧ d1 ≤ maxLen) → SumsAt u a1 xn1 f1' → HitsAt u e1 yn1 g11 g12 → Calls Try.prog 10 #[.agg #[.int .i64 k, .int .i64 l, .int .i64 v, .int .i64 b], .agg #[.int .i64 T1, .int .i64 H1, .slice a1 xn1 c1, .slice e1 yn1 d1], .int .i64 t, .int .i64 m'] u (Tells T2 H2 xn2 f2' yn2 g21 g22 false rm2 rt2 rs2 u))
    (K3 : ∀ u, Below W.heap.size W u → Calls Try.prog 10 #[.agg #[.int .i64 k, .int .i64 l, .int .i64 v, .int .i64 b], .agg #[.int .i64 a, .int .i64 n, .slice sa sn sc, .slice ha hn hc], .int .i64 t, .int .i64 (m + m')] u (Tells T3 H3 xn3 f3' yn3 g31 g32 false rm3 rt3 rs3 u)) : Calls Try.prog 7 #[.agg #[.int .i64 k, .int .i64 l, .int .i64 v, .int .i64 b], .agg #[.int .i64 a, .int .i64 n, .slice sa sn sc, .slice ha hn hc], .agg #[.int .i64 t, .int .i64 m, .int .i64 m']] W fun e w' => e = .returned (.bool true) ∧ Below W.heap.size W w' := by
  have A0 := Lib.hid (At.made W k l v b a n t m m' (.slice sa sn sc) (.slice ha hn hc))
  have FW := Lib.hid (fun u => Few_yes a n sa ha sn sc hn hc u f1 f2)
  replace MK := Lib.hid MK
  have W1 := Lib.hid (fun u => rWeighs_yes m u x1 x2)
  have W2 := Lib.hid (fun u => rWeighs_yes m' u y1 y2)
  have W3 := Lib.hid (fun u => rWeighs_yes (m + m') u z1 z2)
  replace K1 := Lib.hid K1
  replace K2 := Lib.hid K2
  replace K3 := Lib.hid K3
  clear f1 f2
  go_enter Try.func7, Try.ntmps7
  go_wp2_with fail
  refine (FW.out _).mono ?_; rintro e w1 ⟨rfl, hb⟩
  have A1 := Lib.hid (A0.out.step hb)
  clear hb A0
  obtain ⟨⟨j0, j1, j2, j3⟩, ⟨j4, j5, j6, j7⟩, j8, j9, j10⟩ := A1.out.cells
  go_wp2_with fail
  refine (MK.out _ A1.out.be).mono ?_; rintro e w2 ⟨rfl, hb⟩
  clear j0 j1 j2 j3 j4 j5 j6 j7 j8 j9 j10
  have A2 := Lib.hid (A1.out.step hb)
  clear hb A1
  obtain ⟨⟨j0, j1, j2, j3⟩, ⟨j4, j5, j6, j7⟩, j8, j9, j10⟩ := A2.out.cells
  go_wp2_with fail
  refine (W1.out _).mono ?_; rintro e w' ⟨rfl, rfl⟩
  go_wp2_with fail
  refine (W2.out _).mono ?_; rintro e w' ⟨rfl, rfl⟩
  go_wp2_with fail
  refine (W3.out _).mono ?_; rintro e w' ⟨rfl, rfl⟩
  clear j0 j1 j2 j3 j4 j5 j6 j7 j8 j9 j10
  obtain ⟨⟨j0, j1, j2, j3⟩, ⟨j4, j5, j6, j7⟩, j8, j9, j10⟩ := A2.out.cells
  go_wp2_with fail
  refine (K1.out _ A2.out.be).mono ?_; rintro e w3 ⟨a1, e1, c1, d1, hcap, rfl, hs, hh, hb⟩
  clear j0 j1 j2 j3 j4 j5 j6 j7 j8 j9 j10
  replace hcap := Lib.hid hcap
  have A3 := Lib.hid ((A2.out.step hb).two (.cells #[.int .i64 T1, .int .i64 H1, .slice a1 xn1 c1, .slice e1 yn1 d1] 27) (.cells #[.bool true, .int .i64 rm1, .int .i64 rt1, .int .i64 rs1] 32))
  have c3 := Lib.hid (made1 w3 27 [.int .i64 T1, .int .i64 H1, .slice a1 xn1 c1, .slice e1 yn1 d1] (.cells #[.bool true, .int .i64 rm1, .int .i64 rt1, .int .i64 rs1] 32))
  have u3 := Lib.hid (made2 w3 32 27 [.bool true, .int .i64 rm1, .int .i64 rt1, .int .i64 rs1] (.cells #[.int .i64 T1, .int .i64 H1, .slice a1 xn1 c1, .slice e1 yn1 d1] 27))
  have Sc3 := Lib.hid (hs.below (below_2 w3 (.cells #[.int .i64 T1, .int .i64 H1, .slice a1 xn1 c1, .slice e1 yn1 d1] 27) (.cells #[.bool true, .int .i64 rm1, .int .i64 rt1, .int .i64 rs1] 32)))
  have Hc3 := Lib.hid (hh.below (below_2 w3 (.cells #[.int .i64 T1, .int .i64 H1, .slice a1 xn1 c1, .slice e1 yn1 d1] 27) (.cells #[.bool true, .int .i64 rm1, .int .i64 rt1, .int .i64 rs1] 32)))
  clear hb hs hh A2
  obtain ⟨⟨j0, j1, j2, j3⟩, ⟨j4, j5, j6, j7⟩, j8, j9, j10⟩ := A3.out.cells
  obtain ⟨kc0, kc1, kc2, kc3⟩ := c3.out.four
  obtain ⟨ku0, ku1, ku2, ku3⟩ := u3.out.four
  go_wp2_with fail
  refine (K2.out _ _ _ _ _ hcap.out Sc3.out Hc3.out).mono ?_; rintro e w4 ⟨a2, e2, c2, d2, rfl, hs, hh, hb⟩
  clear j0 j1 j2 j3 j4 j5 j6 j7 j8 j9 j10
  clear kc0 kc1 kc2 kc3 ku0 ku1 ku2 ku3
  have A4 := Lib.hid ((A3.out.step hb).two (.cells #[.int .i64 T2, .int .i64 H2, .slice a2 xn2 c2, .slice e2 yn2 d2] 27) (.cells #[.bool false, .int .i64 rm2, .int .i64 rt2, .int .i64 rs2] 32))
  have c4 := Lib.hid ((c3.out.step hb).step (below_2 w4 (.cells #[.int .i64 T2, .int .i64 H2, .slice a2 xn2 c2, .slice e2 yn2 d2] 27) (.cells #[.bool false, .int .i64 rm2, .int .i64 rt2, .int .i64 rs2] 32)))
  have u4 := Lib.hid ((u3.out.step hb).step (below_2 w4 (.cells #[.int .i64 T2, .int .i64 H2, .slice a2 xn2 c2, .slice e2 yn2 d2] 27) (.cells #[.bool false, .int .i64 rm2, .int .i64 rt2, .int .i64 rs2] 32)))
  have Sc4 := Lib.hid ((Sc3.out.below hb).below (below_2 w4 (.cells #[.int .i64 T2, .int .i64 H2, .slice a2 xn2 c2, .slice e2 yn2 d2] 27) (.cells #[.bool false, .int .i64 rm2, .int .i64 rt2, .int .i64 rs2] 32)))
  have Hc4 := Lib.hid ((Hc3.out.below hb).below (below_2 w4 (.cells #[.int .i64 T2, .int .i64 H2, .slice a2 xn2 c2, .slice e2 yn2 d2] 27) (.cells #[.bool false, .int .i64 rm2, .int .i64 rt2, .int .i64 rs2] 32)))
  have d4 := Lib.hid (made1 w4 27 [.int .i64 T2, .int .i64 H2, .slice a2 xn2 c2, .slice e2 yn2 d2] (.cells #[.bool false, .int .i64 rm2, .int .i64 rt2, .int .i64 rs2] 32))
  have x4 := Lib.hid (made2 w4 32 27 [.bool false, .int .i64 rm2, .int .i64 rt2, .int .i64 rs2] (.cells #[.int .i64 T2, .int .i64 H2, .slice a2 xn2 c2, .slice e2 yn2 d2] 27))
  have Sd4 := Lib.hid (hs.below (below_2 w4 (.cells #[.int .i64 T2, .int .i64 H2, .slice a2 xn2 c2, .slice e2 yn2 d2] 27) (.cells #[.bool false, .int .i64 rm2, .int .i64 rt2, .int .i64 rs2] 32)))
  have Hd4 := Lib.hid (hh.below (below_2 w4 (.cells #[.int .i64 T2, .int .i64 H2, .slice a2 xn2 c2, .slice e2 yn2 d2] 27) (.cells #[.bool false, .int .i64 rm2, .int .i64 rt2, .int .i64 rs2] 32)))
  clear hb hs hh A3 c3 u3 Sc3 Hc3
  obtain ⟨⟨j0, j1, j2, j3⟩, ⟨j4, j5, j6, j7⟩, j8, j9, j10⟩ := A4.out.cells
  obtain ⟨kc0, kc1, kc2, kc3⟩ := c4.out.four
  obtain ⟨ku0, ku1, ku2, ku3⟩ := u4.out.four
  obtain ⟨kd0, kd1, kd2, kd3⟩ := d4.out.four
  obtain ⟨kx0, kx1, kx2, kx3⟩ := x4.out.four
  go_wp2_with fail
  refine (K3.out _ A4.out.be).mono ?_; rintro e w5 ⟨a3, e3, c3, d3, rfl, hs, hh, hb⟩
  clear j0 j1 j2 j3 j4 j5 j6 j7 j8 j9 j10
  clear kc0 kc1 kc2 kc3 ku0 ku1 ku2 ku3 kd0 kd1 kd2 kd3 kx0 kx1 kx2 kx3
  have A5 := Lib.hid ((A4.out.step hb).two (.cells #[.int .i64 T3, .int .i64 H3, .slice a3 xn3 c3, .slice e3 yn3 d3] 27) (.cells #[.bool false, .int .i64 rm3, .int .i64 rt3, .int .i64 rs3] 32))
  have c5 := Lib.hid ((c4.out.step hb).step (below_2 w5 (.cells #[.int .i64 T3, .int .i64 H3, .slice a3 xn3 c3, .slice e3 yn3 d3] 27) (.cells #[.bool false, .int .i64 rm3, .int .i64 rt3, .int .i64 rs3] 32)))
  have u5 := Lib.hid ((u4.out.step hb).step (below_2 w5 (.cells #[.int .i64 T3, .int .i64 H3, .slice a3 xn3 c3, .slice e3 yn3 d3] 27) (.cells #[.bool false, .int .i64 rm3, .int .i64 rt3, .int .i64 rs3] 32)))
  have d5 := Lib.hid ((d4.out.step hb).step (below_2 w5 (.cells #[.int .i64 T3, .int .i64 H3, .slice a3 xn3 c3, .slice e3 yn3 d3] 27) (.cells #[.bool false, .int .i64 rm3, .int .i64 rt3, .int .i64 rs3] 32)))
  have x5 := Lib.hid ((x4.out.step hb).step (below_2 w5 (.cells #[.int .i64 T3, .int .i64 H3, .slice a3 xn3 c3, .slice e3 yn3 d3] 27) (.cells #[.bool false, .int .i64 rm3, .int .i64 rt3, .int .i64 rs3] 32)))
  have Sc5 := Lib.hid ((Sc4.out.below hb).below (below_2 w5 (.cells #[.int .i64 T3, .int .i64 H3, .slice a3 xn3 c3, .slice e3 yn3 d3] 27) (.cells #[.bool false, .int .i64 rm3, .int .i64 rt3, .int .i64 rs3] 32)))
  have Hc5 := Lib.hid ((Hc4.out.below hb).below (below_2 w5 (.cells #[.int .i64 T3, .int .i64 H3, .slice a3 xn3 c3, .slice e3 yn3 d3] 27) (.cells #[.bool false, .int .i64 rm3, .int .i64 rt3, .int .i64 rs3] 32)))
  have Sd5 := Lib.hid ((Sd4.out.below hb).below (below_2 w5 (.cells #[.int .i64 T3, .int .i64 H3, .slice a3 xn3 c3, .slice e3 yn3 d3] 27) (.cells #[.bool false, .int .i64 rm3, .int .i64 rt3, .int .i64 rs3] 32)))
  have Hd5 := Lib.hid ((Hd4.out.below hb).below (below_2 w5 (.cells #[.int .i64 T3, .int .i64 H3, .slice a3 xn3 c3, .slice e3 yn3 d3] 27) (.cells #[.bool false, .int .i64 rm3, .int .i64 rt3, .int .i64 rs3] 32)))
  have f5 := Lib.hid (made1 w5 27 [.int .i64 T3, .int .i64 H3, .slice a3 xn3 c3, .slice e3 yn3 d3] (.cells #[.bool false, .int .i64 rm3, .int .i64 rt3, .int .i64 rs3] 32))
  have z5 := Lib.hid (made2 w5 32 27 [.bool false, .int .i64 rm3, .int .i64 rt3, .int .i64 rs3] (.cells #[.int .i64 T3, .int .i64 H3, .slice a3 xn3 c3, .slice e3 yn3 d3] 27))
  have Sf5 := Lib.hid (hs.below (below_2 w5 (.cells #[.int .i64 T3, .int .i64 H3, .slice a3 xn3 c3, .slice e3 yn3 d3] 27) (.cells #[.bool false, .int .i64 rm3, .int .i64 rt3, .int .i64 rs3] 32)))
  have Hf5 := Lib.hid (hh.below (below_2 w5 (.cells #[.int .i64 T3, .int .i64 H3, .slice a3 xn3 c3, .slice e3 yn3 d3] 27) (.cells #[.bool false, .int .i64 rm3, .int .i64 rt3, .int .i64 rs3] 32)))
  clear hb hs hh A4 c4 u4 d4 x4 Sc4 Hc4 Sd4 Hd4
  obtain ⟨ku0, ku1, ku2, ku3⟩ := u5.out.four
  obtain ⟨kd0, kd1, kd2, kd3⟩ := d5.out.four
  obtain ⟨kx0, kx1, kx2, kx3⟩ := x5.out.four
  obtain ⟨kf0, kf1, kf2, kf3⟩ := f5.out.four
  obtain ⟨kz0, kz1, kz2, kz3⟩ := z5.out.four
  go_wp2_with fail
  refine (live_any _).mono ?_; rintro e wl ⟨rfl, hb⟩
  have AL := Lib.hid (A5.out.step hb)
  clear hb
  go_wp2_with fail
  go_ret
  exact ⟨rfl, AL.out.be⟩

set_option maxRecDepth 100000 in
set_option maxHeartbeats 4000000 in
theorem y_f (k l v b a n t m m' : Int) (sa ha : Option Addr) (sn sc hn hc : Nat) (W : World) (f1 : sn ≤ 40) (f2 : hn ≤ 40) (MK : ∀ u, Below W.heap.size W u → Calls Try.prog 14 #[.agg #[.int .i64 k, .int .i64 l, .int .i64 v, .int .i64 b], .agg #[.int .i64 a, .int .i64 n, .slice sa sn sc, .slice ha hn hc]] u fun e w' => e = .returned (.bool true) ∧ Below u.heap.size u w') (x1 : 1 ≤ m) (x2 : m ≤ 1048576) (y1 : 1 ≤ m') (y2 : m' ≤ 1048576) (z1 : 1 ≤ (m + m')) (z2 : (m + m') ≤ 1048576) (t1 : 0 ≤ t) (t2 : t ≤ 1099511627776) (T1 H1 T2 H2 T3 H3 : Int) (xn1 yn1 xn2 yn2 xn3 yn3 : Nat) (f1' g11 g12 f2' g21 g22 f3' g31 g32 : Nat → Int) (al2 : Bool) (rm1 rt1 rs1 rm2 rt2 rs2 rm3 rt3 rs3 : Int)
    (K1 : ∀ u, Below W.heap.size W u → Calls Try.prog 10 #[.agg #[.int .i64 k, .int .i64 l, .int .i64 v, .int .i64 b], .agg #[.int .i64 a, .int .i64 n, .slice sa sn sc, .slice ha hn hc], .int .i64 t, .int .i64 m] u (TellsH T1 H1 xn1 f1' yn1 g11 g12 false rm1 rt1 rs1 u))
    (K2 : ∀ a1 e1 c1 d1 u, (yn1 ≤ d1 ∧ d1 ≤ maxLen) → SumsAt u a1 xn1 f1' → HitsAt u e1 yn1 g11 g12 → Calls Try.prog 10 #[.agg #[.int .i64 k, .int .i64 l, .int .i64 v, .int .i64 b], .agg #[.int .i64 T1, .int .i64 H1, .slice a1 xn1 c1, .slice e1 yn1 d1], .int .i64 t, .int .i64 m'] u (Tells T2 H2 xn2 f2' yn2 g21 g22 al2 rm2 rt2 rs2 u))
    (K3 : ∀ u, Below W.heap.size W u → Calls Try.prog 10 #[.agg #[.int .i64 k, .int .i64 l, .int .i64 v, .int .i64 b], .agg #[.int .i64 a, .int .i64 n, .slice sa sn sc, .slice ha hn hc], .int .i64 t, .int .i64 (m + m')] u (Tells T3 H3 xn3 f3' yn3 g31 g32 false rm3 rt3 rs3 u)) : Calls Try.prog 7 #[.agg #[.int .i64 k, .int .i64 l, .int .i64 v, .int .i64 b], .agg #[.int .i64 a, .int .i64 n, .slice sa sn sc, .slice ha hn hc], .agg #[.int .i64 t, .int .i64 m, .int .i64 m']] W fun e w' => e = .returned (.bool true) ∧ Below W.heap.size W w' := by
  have A0 := Lib.hid (At.made W k l v b a n t m m' (.slice sa sn sc) (.slice ha hn hc))
  have FW := Lib.hid (fun u => Few_yes a n sa ha sn sc hn hc u f1 f2)
  replace MK := Lib.hid MK
  have W1 := Lib.hid (fun u => rWeighs_yes m u x1 x2)
  have W2 := Lib.hid (fun u => rWeighs_yes m' u y1 y2)
  have W3 := Lib.hid (fun u => rWeighs_yes (m + m') u z1 z2)
  replace K1 := Lib.hid K1
  replace K2 := Lib.hid K2
  replace K3 := Lib.hid K3
  clear f1 f2
  go_enter Try.func7, Try.ntmps7
  go_wp2_with fail
  refine (FW.out _).mono ?_; rintro e w1 ⟨rfl, hb⟩
  have A1 := Lib.hid (A0.out.step hb)
  clear hb A0
  obtain ⟨⟨j0, j1, j2, j3⟩, ⟨j4, j5, j6, j7⟩, j8, j9, j10⟩ := A1.out.cells
  go_wp2_with fail
  refine (MK.out _ A1.out.be).mono ?_; rintro e w2 ⟨rfl, hb⟩
  clear j0 j1 j2 j3 j4 j5 j6 j7 j8 j9 j10
  have A2 := Lib.hid (A1.out.step hb)
  clear hb A1
  obtain ⟨⟨j0, j1, j2, j3⟩, ⟨j4, j5, j6, j7⟩, j8, j9, j10⟩ := A2.out.cells
  go_wp2_with fail
  refine (W1.out _).mono ?_; rintro e w' ⟨rfl, rfl⟩
  go_wp2_with fail
  refine (W2.out _).mono ?_; rintro e w' ⟨rfl, rfl⟩
  go_wp2_with fail
  refine (W3.out _).mono ?_; rintro e w' ⟨rfl, rfl⟩
  clear j0 j1 j2 j3 j4 j5 j6 j7 j8 j9 j10
  obtain ⟨⟨j0, j1, j2, j3⟩, ⟨j4, j5, j6, j7⟩, j8, j9, j10⟩ := A2.out.cells
  go_wp2_with fail
  refine (K1.out _ A2.out.be).mono ?_; rintro e w3 ⟨a1, e1, c1, d1, hcap, rfl, hs, hh, hb⟩
  clear j0 j1 j2 j3 j4 j5 j6 j7 j8 j9 j10
  replace hcap := Lib.hid hcap
  have A3 := Lib.hid ((A2.out.step hb).two (.cells #[.int .i64 T1, .int .i64 H1, .slice a1 xn1 c1, .slice e1 yn1 d1] 27) (.cells #[.bool false, .int .i64 rm1, .int .i64 rt1, .int .i64 rs1] 32))
  have c3 := Lib.hid (made1 w3 27 [.int .i64 T1, .int .i64 H1, .slice a1 xn1 c1, .slice e1 yn1 d1] (.cells #[.bool false, .int .i64 rm1, .int .i64 rt1, .int .i64 rs1] 32))
  have u3 := Lib.hid (made2 w3 32 27 [.bool false, .int .i64 rm1, .int .i64 rt1, .int .i64 rs1] (.cells #[.int .i64 T1, .int .i64 H1, .slice a1 xn1 c1, .slice e1 yn1 d1] 27))
  have Sc3 := Lib.hid (hs.below (below_2 w3 (.cells #[.int .i64 T1, .int .i64 H1, .slice a1 xn1 c1, .slice e1 yn1 d1] 27) (.cells #[.bool false, .int .i64 rm1, .int .i64 rt1, .int .i64 rs1] 32)))
  have Hc3 := Lib.hid (hh.below (below_2 w3 (.cells #[.int .i64 T1, .int .i64 H1, .slice a1 xn1 c1, .slice e1 yn1 d1] 27) (.cells #[.bool false, .int .i64 rm1, .int .i64 rt1, .int .i64 rs1] 32)))
  clear hb hs hh A2
  obtain ⟨⟨j0, j1, j2, j3⟩, ⟨j4, j5, j6, j7⟩, j8, j9, j10⟩ := A3.out.cells
  obtain ⟨kc0, kc1, kc2, kc3⟩ := c3.out.four
  obtain ⟨ku0, ku1, ku2, ku3⟩ := u3.out.four
  go_wp2_with fail
  refine (K2.out _ _ _ _ _ hcap.out Sc3.out Hc3.out).mono ?_; rintro e w4 ⟨a2, e2, c2, d2, rfl, hs, hh, hb⟩
  clear j0 j1 j2 j3 j4 j5 j6 j7 j8 j9 j10
  clear kc0 kc1 kc2 kc3 ku0 ku1 ku2 ku3
  have A4 := Lib.hid ((A3.out.step hb).two (.cells #[.int .i64 T2, .int .i64 H2, .slice a2 xn2 c2, .slice e2 yn2 d2] 27) (.cells #[.bool al2, .int .i64 rm2, .int .i64 rt2, .int .i64 rs2] 32))
  have c4 := Lib.hid ((c3.out.step hb).step (below_2 w4 (.cells #[.int .i64 T2, .int .i64 H2, .slice a2 xn2 c2, .slice e2 yn2 d2] 27) (.cells #[.bool al2, .int .i64 rm2, .int .i64 rt2, .int .i64 rs2] 32)))
  have u4 := Lib.hid ((u3.out.step hb).step (below_2 w4 (.cells #[.int .i64 T2, .int .i64 H2, .slice a2 xn2 c2, .slice e2 yn2 d2] 27) (.cells #[.bool al2, .int .i64 rm2, .int .i64 rt2, .int .i64 rs2] 32)))
  have Sc4 := Lib.hid ((Sc3.out.below hb).below (below_2 w4 (.cells #[.int .i64 T2, .int .i64 H2, .slice a2 xn2 c2, .slice e2 yn2 d2] 27) (.cells #[.bool al2, .int .i64 rm2, .int .i64 rt2, .int .i64 rs2] 32)))
  have Hc4 := Lib.hid ((Hc3.out.below hb).below (below_2 w4 (.cells #[.int .i64 T2, .int .i64 H2, .slice a2 xn2 c2, .slice e2 yn2 d2] 27) (.cells #[.bool al2, .int .i64 rm2, .int .i64 rt2, .int .i64 rs2] 32)))
  have d4 := Lib.hid (made1 w4 27 [.int .i64 T2, .int .i64 H2, .slice a2 xn2 c2, .slice e2 yn2 d2] (.cells #[.bool al2, .int .i64 rm2, .int .i64 rt2, .int .i64 rs2] 32))
  have x4 := Lib.hid (made2 w4 32 27 [.bool al2, .int .i64 rm2, .int .i64 rt2, .int .i64 rs2] (.cells #[.int .i64 T2, .int .i64 H2, .slice a2 xn2 c2, .slice e2 yn2 d2] 27))
  have Sd4 := Lib.hid (hs.below (below_2 w4 (.cells #[.int .i64 T2, .int .i64 H2, .slice a2 xn2 c2, .slice e2 yn2 d2] 27) (.cells #[.bool al2, .int .i64 rm2, .int .i64 rt2, .int .i64 rs2] 32)))
  have Hd4 := Lib.hid (hh.below (below_2 w4 (.cells #[.int .i64 T2, .int .i64 H2, .slice a2 xn2 c2, .slice e2 yn2 d2] 27) (.cells #[.bool al2, .int .i64 rm2, .int .i64 rt2, .int .i64 rs2] 32)))
  clear hb hs hh A3 c3 u3 Sc3 Hc3
  obtain ⟨⟨j0, j1, j2, j3⟩, ⟨j4, j5, j6, j7⟩, j8, j9, j10⟩ := A4.out.cells
  obtain ⟨kc0, kc1, kc2, kc3⟩ := c4.out.four
  obtain ⟨ku0, ku1, ku2, ku3⟩ := u4.out.four
  obtain ⟨kd0, kd1, kd2, kd3⟩ := d4.out.four
  obtain ⟨kx0, kx1, kx2, kx3⟩ := x4.out.four
  go_wp2_with fail
  refine (K3.out _ A4.out.be).mono ?_; rintro e w5 ⟨a3, e3, c3, d3, rfl, hs, hh, hb⟩
  clear j0 j1 j2 j3 j4 j5 j6 j7 j8 j9 j10
  clear kc0 kc1 kc2 kc3 ku0 ku1 ku2 ku3 kd0 kd1 kd2 kd3 kx0 kx1 kx2 kx3
  have A5 := Lib.hid ((A4.out.step hb).two (.cells #[.int .i64 T3, .int .i64 H3, .slice a3 xn3 c3, .slice e3 yn3 d3] 27) (.cells #[.bool false, .int .i64 rm3, .int .i64 rt3, .int .i64 rs3] 32))
  have c5 := Lib.hid ((c4.out.step hb).step (below_2 w5 (.cells #[.int .i64 T3, .int .i64 H3, .slice a3 xn3 c3, .slice e3 yn3 d3] 27) (.cells #[.bool false, .int .i64 rm3, .int .i64 rt3, .int .i64 rs3] 32)))
  have u5 := Lib.hid ((u4.out.step hb).step (below_2 w5 (.cells #[.int .i64 T3, .int .i64 H3, .slice a3 xn3 c3, .slice e3 yn3 d3] 27) (.cells #[.bool false, .int .i64 rm3, .int .i64 rt3, .int .i64 rs3] 32)))
  have d5 := Lib.hid ((d4.out.step hb).step (below_2 w5 (.cells #[.int .i64 T3, .int .i64 H3, .slice a3 xn3 c3, .slice e3 yn3 d3] 27) (.cells #[.bool false, .int .i64 rm3, .int .i64 rt3, .int .i64 rs3] 32)))
  have x5 := Lib.hid ((x4.out.step hb).step (below_2 w5 (.cells #[.int .i64 T3, .int .i64 H3, .slice a3 xn3 c3, .slice e3 yn3 d3] 27) (.cells #[.bool false, .int .i64 rm3, .int .i64 rt3, .int .i64 rs3] 32)))
  have Sc5 := Lib.hid ((Sc4.out.below hb).below (below_2 w5 (.cells #[.int .i64 T3, .int .i64 H3, .slice a3 xn3 c3, .slice e3 yn3 d3] 27) (.cells #[.bool false, .int .i64 rm3, .int .i64 rt3, .int .i64 rs3] 32)))
  have Hc5 := Lib.hid ((Hc4.out.below hb).below (below_2 w5 (.cells #[.int .i64 T3, .int .i64 H3, .slice a3 xn3 c3, .slice e3 yn3 d3] 27) (.cells #[.bool false, .int .i64 rm3, .int .i64 rt3, .int .i64 rs3] 32)))
  have Sd5 := Lib.hid ((Sd4.out.below hb).below (below_2 w5 (.cells #[.int .i64 T3, .int .i64 H3, .slice a3 xn3 c3, .slice e3 yn3 d3] 27) (.cells #[.bool false, .int .i64 rm3, .int .i64 rt3, .int .i64 rs3] 32)))
  have Hd5 := Lib.hid ((Hd4.out.below hb).below (below_2 w5 (.cells #[.int .i64 T3, .int .i64 H3, .slice a3 xn3 c3, .slice e3 yn3 d3] 27) (.cells #[.bool false, .int .i64 rm3, .int .i64 rt3, .int .i64 rs3] 32)))
  have f5 := Lib.hid (made1 w5 27 [.int .i64 T3, .int .i64 H3, .slice a3 xn3 c3, .slice e3 yn3 d3] (.cells #[.bool false, .int .i64 rm3, .int .i64 rt3, .int .i64 rs3] 32))
  have z5 := Lib.hid (made2 w5 32 27 [.bool false, .int .i64 rm3, .int .i64 rt3, .int .i64 rs3] (.cells #[.int .i64 T3, .int .i64 H3, .slice a3 xn3 c3, .slice e3 yn3 d3] 27))
  have Sf5 := Lib.hid (hs.below (below_2 w5 (.cells #[.int .i64 T3, .int .i64 H3, .slice a3 xn3 c3, .slice e3 yn3 d3] 27) (.cells #[.bool false, .int .i64 rm3, .int .i64 rt3, .int .i64 rs3] 32)))
  have Hf5 := Lib.hid (hh.below (below_2 w5 (.cells #[.int .i64 T3, .int .i64 H3, .slice a3 xn3 c3, .slice e3 yn3 d3] 27) (.cells #[.bool false, .int .i64 rm3, .int .i64 rt3, .int .i64 rs3] 32)))
  clear hb hs hh A4 c4 u4 d4 x4 Sc4 Hc4 Sd4 Hd4
  obtain ⟨ku0, ku1, ku2, ku3⟩ := u5.out.four
  obtain ⟨kd0, kd1, kd2, kd3⟩ := d5.out.four
  obtain ⟨kx0, kx1, kx2, kx3⟩ := x5.out.four
  obtain ⟨kf0, kf1, kf2, kf3⟩ := f5.out.four
  obtain ⟨kz0, kz1, kz2, kz3⟩ := z5.out.four
  go_wp2_with fail
  refine (live_any _).mono ?_; rintro e wl ⟨rfl, hb⟩
  have AL := Lib.hid (A5.out.step hb)
  clear hb
  go_wp2_with fail
  go_ret
  exact ⟨rfl, AL.out.be⟩
end Go.Proofs.Ytgdcgilhaedbmaa.exactParts
