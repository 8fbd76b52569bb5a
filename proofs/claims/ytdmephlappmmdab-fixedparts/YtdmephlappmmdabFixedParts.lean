/- For every policy, every cell and every three numbers the law FixedParts returns true: two weights, one behind the other at one time, are both let in just where both together are at once, and leave the same cell. No condition. -/
import Derived.Test.YtdmephlappmmdabRows
import Derived.Test.YtdmephlappmmdabFxLive
import Derived.Test.YtdmephlappmmdabFx7
import Derived.Test.YtdmephlappmmdabGcOpen
namespace Go.Proofs.Ytdmephlappmmdab.fixedParts
open Go.ChangeShapes Go.WideShapes Go.ChangeAt Go.RowKit
set_option linter.unusedVariables false

/-- The policy, the cell and the numbers, in three blocks. -/
structure At (w0 : World) (k l v b a n t m m' : Int) (x y : Value) (w : World) : Prop where
  p : Has w w0.heap.size 23 [.int .i64 k, .int .i64 l, .int .i64 v, .int .i64 b]
  c : Has w (w0.heap.size + 1) 27 [.int .i64 a, .int .i64 n, x, y]
  n : Has w (w0.heap.size + 1 + 1) 47 [.int .i64 t, .int .i64 m, .int .i64 m']
  be : Below w0.heap.size w0 w
theorem At.made (w : World) (k l v b a n t m m' : Int) (x y : Value) : At w k l v b a n t m m' x y (((w.alloc (.cells #[.int .i64 k, .int .i64 l, .int .i64 v, .int .i64 b] 23)).alloc (.cells #[.int .i64 a, .int .i64 n, x, y] 27)).alloc (.cells #[.int .i64 t, .int .i64 m, .int .i64 m'] 47)) := by
  refine ⟨((Has.made w 23 [.int .i64 k, .int .i64 l, .int .i64 v, .int .i64 b]).alloc _).alloc _, Has.alloc ?_ _, ?_, (((Below.refl _ _).alloc (Nat.le_refl _) _).alloc (by simp) _).alloc (by simp; omega) _⟩
  · have := Has.made (w.alloc (.cells #[.int .i64 k, .int .i64 l, .int .i64 v, .int .i64 b] 23)) 27 [.int .i64 a, .int .i64 n, x, y]
    simpa using this
  · have := Has.made ((w.alloc (.cells #[.int .i64 k, .int .i64 l, .int .i64 v, .int .i64 b] 23)).alloc (.cells #[.int .i64 a, .int .i64 n, x, y] 27)) 47 [.int .i64 t, .int .i64 m, .int .i64 m']
    simpa using this
theorem At.step {w0 w w' : World} {k l v b a n t m m' : Int} {x y : Value} (h : At w0 k l v b a n t m m' x y w) (hb : Below w.heap.size w w') : At w0 k l v b a n t m m' x y w' :=
  ⟨h.p.step hb, h.c.step hb, h.n.step hb, h.be.trans (hb.mono h.be.size)⟩
theorem At.two {w0 w : World} {k l v b a n t m m' : Int} {x y : Value} (h : At w0 k l v b a n t m m' x y w) (o o' : Obj) : At w0 k l v b a n t m m' x y ((w.alloc o).alloc o') :=
  (h.step ((Below.refl _ _).alloc (Nat.le_refl _) o)).step ((Below.refl _ _).alloc (Nat.le_refl _) o')
theorem At.cells {w0 w : World} {k l v b a n t m m' : Int} {x y : Value} (h : At w0 k l v b a n t m m' x y w) :
    (w.cell? ⟨w0.heap.size, 0, none⟩ = some (.int .i64 k) ∧ w.cell? ⟨w0.heap.size, 1, none⟩ = some (.int .i64 l) ∧ w.cell? ⟨w0.heap.size, 2, none⟩ = some (.int .i64 v) ∧ w.cell? ⟨w0.heap.size, 3, none⟩ = some (.int .i64 b)) ∧
    (w.cell? ⟨w0.heap.size + 1, 0, none⟩ = some (.int .i64 a) ∧ w.cell? ⟨w0.heap.size + 1, 1, none⟩ = some (.int .i64 n) ∧ w.cell? ⟨w0.heap.size + 1, 2, none⟩ = some x ∧ w.cell? ⟨w0.heap.size + 1, 3, none⟩ = some y) ∧
    (w.cell? ⟨w0.heap.size + 1 + 1, 0, none⟩ = some (.int .i64 t) ∧ w.cell? ⟨w0.heap.size + 1 + 1, 1, none⟩ = some (.int .i64 m) ∧ w.cell? ⟨w0.heap.size + 1 + 1, 2, none⟩ = some (.int .i64 m')) :=
  ⟨h.p.four, h.c.four, h.n.cell 0, h.n.cell 1, h.n.cell 2⟩

set_option maxRecDepth 100000 in
set_option maxHeartbeats 4000000 in
theorem n0 (k l v b a n t m m' : Int) (sa ha : Option Addr) (sn sc hn hc : Nat) (W : World) (h : ¬ (sn ≤ 40 ∧ hn ≤ 40)) (q1 : sn ≤ maxLen) (q2 : hn ≤ maxLen) :
    Calls Try.prog 7 #[.agg #[.int .i64 k, .int .i64 l, .int .i64 v, .int .i64 b], .agg #[.int .i64 a, .int .i64 n, .slice sa sn sc, .slice ha hn hc], .agg #[.int .i64 t, .int .i64 m, .int .i64 m']] W fun e w' => e = .returned (.bool true) ∧ Below W.heap.size W w' := by
  have A0 := Lib.hid (At.made W k l v b a n t m m' (.slice sa sn sc) (.slice ha hn hc))
  have FW := Lib.hid (fun u => Few_no a n sa ha sn sc hn hc u h q1 q2)
  clear h q1 q2
  go_enter Try.func7, Try.ntmps7
  go_wp2_with fail
  refine (FW.out _).mono ?_; rintro e w1 ⟨rfl, hb⟩
  have A1 := Lib.hid (A0.out.step hb)
  clear hb A0
  go_wp2_with fail
  refine (live_any _).mono ?_; rintro e wl ⟨rfl, hb⟩
  have AL := Lib.hid (A1.out.step hb)
  clear hb
  go_wp2_with fail
  go_ret
  exact ⟨rfl, AL.out.be⟩

set_option maxRecDepth 100000 in
set_option maxHeartbeats 4000000 in
theorem n1 (k l v b a n t m m' : Int) (sa ha : Option Addr) (sn sc hn hc : Nat) (W : World) (f1 : sn ≤ 40) (f2 : hn ≤ 40) (h : ¬ MayG k l v b a n sn hn) :
    Calls Try.prog 7 #[.agg #[.int .i64 k, .int .i64 l, .int .i64 v, .int .i64 b], .agg #[.int .i64 a, .int .i64 n, .slice sa sn sc, .slice ha hn hc], .agg #[.int .i64 t, .int .i64 m, .int .i64 m']] W fun e w' => e = .returned (.bool true) ∧ Below W.heap.size W w' := by
  have A0 := Lib.hid (At.made W k l v b a n t m m' (.slice sa sn sc) (.slice ha hn hc))
  have FW := Lib.hid (fun u => Few_yes a n sa ha sn sc hn hc u f1 f2)
  have MK := Lib.hid (fun u => rMay_no k l v b a n sa ha sn sc hn hc u h)
  clear h f1 f2
  go_enter Try.func7, Try.ntmps7
  go_wp2_with fail
  refine (FW.out _).mono ?_; rintro e w1 ⟨rfl, hb⟩
  have A1 := Lib.hid (A0.out.step hb)
  clear hb A0
  obtain ⟨⟨j0, j1, j2, j3⟩, ⟨j4, j5, j6, j7⟩, j8, j9, j10⟩ := A1.out.cells
  go_wp2_with fail
  refine (MK.out _).mono ?_; rintro e w2 ⟨rfl, hb⟩
  clear j0 j1 j2 j3 j4 j5 j6 j7 j8 j9 j10
  have A2 := Lib.hid (A1.out.step hb)
  clear hb A1
  go_wp2_with fail
  refine (live_any _).mono ?_; rintro e wl ⟨rfl, hb⟩
  have AL := Lib.hid (A2.out.step hb)
  clear hb
  go_wp2_with fail
  go_ret
  exact ⟨rfl, AL.out.be⟩

set_option maxRecDepth 100000 in
set_option maxHeartbeats 4000000 in
theorem n2 (k l v b a n t m m' : Int) (sa ha : Option Addr) (sn sc hn hc : Nat) (W : World) (f1 : sn ≤ 40) (f2 : hn ≤ 40) (h : MayG k l v b a n sn hn) (x : ¬ (1 ≤ m ∧ m ≤ 1048576)) :
    Calls Try.prog 7 #[.agg #[.int .i64 k, .int .i64 l, .int .i64 v, .int .i64 b], .agg #[.int .i64 a, .int .i64 n, .slice sa sn sc, .slice ha hn hc], .agg #[.int .i64 t, .int .i64 m, .int .i64 m']] W fun e w' => e = .returned (.bool true) ∧ Below W.heap.size W w' := by
  have A0 := Lib.hid (At.made W k l v b a n t m m' (.slice sa sn sc) (.slice ha hn hc))
  have FW := Lib.hid (fun u => Few_yes a n sa ha sn sc hn hc u f1 f2)
  have MK := Lib.hid (fun u => rMay_yes k l v b a n sa ha sn sc hn hc u h)
  have W1 := Lib.hid (fun u => rWeighs_no m u x)
  clear h f1 f2 x
  go_enter Try.func7, Try.ntmps7
  go_wp2_with fail
  refine (FW.out _).mono ?_; rintro e w1 ⟨rfl, hb⟩
  have A1 := Lib.hid (A0.out.step hb)
  clear hb A0
  obtain ⟨⟨j0, j1, j2, j3⟩, ⟨j4, j5, j6, j7⟩, j8, j9, j10⟩ := A1.out.cells
  go_wp2_with fail
  refine (MK.out _).mono ?_; rintro e w2 ⟨rfl, hb⟩
  clear j0 j1 j2 j3 j4 j5 j6 j7 j8 j9 j10
  have A2 := Lib.hid (A1.out.step hb)
  clear hb A1
  obtain ⟨⟨j0, j1, j2, j3⟩, ⟨j4, j5, j6, j7⟩, j8, j9, j10⟩ := A2.out.cells
  go_wp2_with fail
  refine (W1.out _).mono ?_; rintro e w' ⟨rfl, rfl⟩
  go_wp2_with fail
  refine (live_any _).mono ?_; rintro e wl ⟨rfl, hb⟩
  have AL := Lib.hid (A2.out.step hb)
  clear hb
  go_wp2_with fail
  go_ret
  exact ⟨rfl, AL.out.be⟩

set_option maxRecDepth 100000 in
set_option maxHeartbeats 4000000 in
theorem n3 (k l v b a n t m m' : Int) (sa ha : Option Addr) (sn sc hn hc : Nat) (W : World) (f1 : sn ≤ 40) (f2 : hn ≤ 40) (h : MayG k l v b a n sn hn) (x1 : 1 ≤ m) (x2 : m ≤ 1048576) (y : ¬ (1 ≤ m' ∧ m' ≤ 1048576)) :
    Calls Try.prog 7 #[.agg #[.int .i64 k, .int .i64 l, .int .i64 v, .int .i64 b], .agg #[.int .i64 a, .int .i64 n, .slice sa sn sc, .slice ha hn hc], .agg #[.int .i64 t, .int .i64 m, .int .i64 m']] W fun e w' => e = .returned (.bool true) ∧ Below W.heap.size W w' := by
  have A0 := Lib.hid (At.made W k l v b a n t m m' (.slice sa sn sc) (.slice ha hn hc))
  have FW := Lib.hid (fun u => Few_yes a n sa ha sn sc hn hc u f1 f2)
  have MK := Lib.hid (fun u => rMay_yes k l v b a n sa ha sn sc hn hc u h)
  have W1 := Lib.hid (fun u => rWeighs_yes m u x1 x2)
  have W2 := Lib.hid (fun u => rWeighs_no m' u y)
  clear h f1 f2 y
  go_enter Try.func7, Try.ntmps7
  go_wp2_with fail
  refine (FW.out _).mono ?_; rintro e w1 ⟨rfl, hb⟩
  have A1 := Lib.hid (A0.out.step hb)
  clear hb A0
  obtain ⟨⟨j0, j1, j2, j3⟩, ⟨j4, j5, j6, j7⟩, j8, j9, j10⟩ := A1.out.cells
  go_wp2_with fail
  refine (MK.out _).mono ?_; rintro e w2 ⟨rfl, hb⟩
  clear j0 j1 j2 j3 j4 j5 j6 j7 j8 j9 j10
  have A2 := Lib.hid (A1.out.step hb)
  clear hb A1
  obtain ⟨⟨j0, j1, j2, j3⟩, ⟨j4, j5, j6, j7⟩, j8, j9, j10⟩ := A2.out.cells
  go_wp2_with fail
  refine (W1.out _).mono ?_; rintro e w' ⟨rfl, rfl⟩
  go_wp2_with fail
  refine (W2.out _).mono ?_; rintro e w' ⟨rfl, rfl⟩
  go_wp2_with fail
  refine (live_any _).mono ?_; rintro e wl ⟨rfl, hb⟩
  have AL := Lib.hid (A2.out.step hb)
  clear hb
  go_wp2_with fail
  go_ret
  exact ⟨rfl, AL.out.be⟩

set_option maxRecDepth 100000 in
set_option maxHeartbeats 4000000 in
theorem n4 (k l v b a n t m m' : Int) (sa ha : Option Addr) (sn sc hn hc : Nat) (W : World) (f1 : sn ≤ 40) (f2 : hn ≤ 40) (h : MayG k l v b a n sn hn) (x1 : 1 ≤ m) (x2 : m ≤ 1048576) (y1 : 1 ≤ m') (y2 : m' ≤ 1048576) (z : ¬ (1 ≤ (m + m') ∧ (m + m') ≤ 1048576)) :
    Calls Try.prog 7 #[.agg #[.int .i64 k, .int .i64 l, .int .i64 v, .int .i64 b], .agg #[.int .i64 a, .int .i64 n, .slice sa sn sc, .slice ha hn hc], .agg #[.int .i64 t, .int .i64 m, .int .i64 m']] W fun e w' => e = .returned (.bool true) ∧ Below W.heap.size W w' := by
  have A0 := Lib.hid (At.made W k l v b a n t m m' (.slice sa sn sc) (.slice ha hn hc))
  have FW := Lib.hid (fun u => Few_yes a n sa ha sn sc hn hc u f1 f2)
  have MK := Lib.hid (fun u => rMay_yes k l v b a n sa ha sn sc hn hc u h)
  have W1 := Lib.hid (fun u => rWeighs_yes m u x1 x2)
  have W2 := Lib.hid (fun u => rWeighs_yes m' u y1 y2)
  have W3 := Lib.hid (fun u => rWeighs_no (m + m') u z)
  clear h f1 f2 z
  go_enter Try.func7, Try.ntmps7
  go_wp2_with fail
  refine (FW.out _).mono ?_; rintro e w1 ⟨rfl, hb⟩
  have A1 := Lib.hid (A0.out.step hb)
  clear hb A0
  obtain ⟨⟨j0, j1, j2, j3⟩, ⟨j4, j5, j6, j7⟩, j8, j9, j10⟩ := A1.out.cells
  go_wp2_with fail
  refine (MK.out _).mono ?_; rintro e w2 ⟨rfl, hb⟩
  clear j0 j1 j2 j3 j4 j5 j6 j7 j8 j9 j10
  have A2 := Lib.hid (A1.out.step hb)
  clear hb A1
  obtain ⟨⟨j0, j1, j2, j3⟩, ⟨j4, j5, j6, j7⟩, j8, j9, j10⟩ := A2.out.cells
  go_wp2_with fail
  refine (W1.out _).mono ?_; rintro e w' ⟨rfl, rfl⟩
  go_wp2_with fail
  refine (W2.out _).mono ?_; rintro e w' ⟨rfl, rfl⟩
  go_wp2_with fail
  refine (W3.out _).mono ?_; rintro e w' ⟨rfl, rfl⟩
  go_wp2_with fail
  refine (live_any _).mono ?_; rintro e wl ⟨rfl, hb⟩
  have AL := Lib.hid (A2.out.step hb)
  clear hb
  go_wp2_with fail
  go_ret
  exact ⟨rfl, AL.out.be⟩

set_option maxRecDepth 100000 in
set_option maxHeartbeats 4000000 in
theorem n5 (k l v b a n t m m' : Int) (sa ha : Option Addr) (sn sc hn hc : Nat) (W : World) (f1 : sn ≤ 40) (f2 : hn ≤ 40) (h : MayG k l v b a n sn hn) (x1 : 1 ≤ m) (x2 : m ≤ 1048576) (y1 : 1 ≤ m') (y2 : m' ≤ 1048576) (z1 : 1 ≤ (m + m')) (z2 : (m + m') ≤ 1048576) (ht : ¬ (0 ≤ t ∧ t ≤ 1099511627776)) :
    Calls Try.prog 7 #[.agg #[.int .i64 k, .int .i64 l, .int .i64 v, .int .i64 b], .agg #[.int .i64 a, .int .i64 n, .slice sa sn sc, .slice ha hn hc], .agg #[.int .i64 t, .int .i64 m, .int .i64 m']] W fun e w' => e = .returned (.bool true) ∧ Below W.heap.size W w' := by
  have A0 := Lib.hid (At.made W k l v b a n t m m' (.slice sa sn sc) (.slice ha hn hc))
  have FW := Lib.hid (fun u => Few_yes a n sa ha sn sc hn hc u f1 f2)
  have MK := Lib.hid (fun u => rMay_yes k l v b a n sa ha sn sc hn hc u h)
  have W1 := Lib.hid (fun u => rWeighs_yes m u x1 x2)
  have W2 := Lib.hid (fun u => rWeighs_yes m' u y1 y2)
  have W3 := Lib.hid (fun u => rWeighs_yes (m + m') u z1 z2)
  clear h f1 f2
  go_enter Try.func7, Try.ntmps7
  go_wp2_with fail
  refine (FW.out _).mono ?_; rintro e w1 ⟨rfl, hb⟩
  have A1 := Lib.hid (A0.out.step hb)
  clear hb A0
  obtain ⟨⟨j0, j1, j2, j3⟩, ⟨j4, j5, j6, j7⟩, j8, j9, j10⟩ := A1.out.cells
  go_wp2_with fail
  refine (MK.out _).mono ?_; rintro e w2 ⟨rfl, hb⟩
  clear j0 j1 j2 j3 j4 j5 j6 j7 j8 j9 j10
  have A2 := Lib.hid (A1.out.step hb)
  clear hb A1
  obtain ⟨⟨j0, j1, j2, j3⟩, ⟨j4, j5, j6, j7⟩, j8, j9, j10⟩ := A2.out.cells
  go_wp2_with fail
  refine (W1.out _).mono ?_; rintro e w' ⟨rfl, rfl⟩
  go_wp2_with fail
  refine (W2.out _).mono ?_; rintro e w' ⟨rfl, rfl⟩
  go_wp2_with fail
  refine (W3.out _).mono ?_; rintro e w' ⟨rfl, rfl⟩
  by_cases ht0 : t < 0
  · clear ht
    go_wp2_with fail
    refine (live_any _).mono ?_; rintro e wl ⟨rfl, hb⟩
    have AL := Lib.hid (A2.out.step hb)
    clear hb
    go_wp2_with fail
    go_ret
    exact ⟨rfl, AL.out.be⟩
  · have ht1 : 1099511627776 < t := by omega
    clear ht
    go_wp2_with fail
    refine (live_any _).mono ?_; rintro e wl ⟨rfl, hb⟩
    have AL := Lib.hid (A2.out.step hb)
    clear hb
    go_wp2_with fail
    go_ret
    exact ⟨rfl, AL.out.be⟩

set_option maxRecDepth 100000 in
set_option maxHeartbeats 4000000 in
theorem y_tt (k l v b a n t m m' : Int) (sa ha : Option Addr) (sn sc hn hc : Nat) (W : World) (f1 : sn ≤ 40) (f2 : hn ≤ 40) (h : MayG k l v b a n sn hn) (x1 : 1 ≤ m) (x2 : m ≤ 1048576) (y1 : 1 ≤ m') (y2 : m' ≤ 1048576) (z1 : 1 ≤ (m + m')) (z2 : (m + m') ≤ 1048576) (t1 : 0 ≤ t) (t2 : t ≤ 1099511627776) (h1 : askAl l v a n t m = true) (h2 : askAl l v (tmax t a) (askHas l v a n t m) t m' = true) :
    Calls Try.prog 7 #[.agg #[.int .i64 k, .int .i64 l, .int .i64 v, .int .i64 b], .agg #[.int .i64 a, .int .i64 n, .slice sa sn sc, .slice ha hn hc], .agg #[.int .i64 t, .int .i64 m, .int .i64 m']] W fun e w' => e = .returned (.bool true) ∧ Below W.heap.size W w' := by
  have A0 := Lib.hid (At.made W k l v b a n t m m' (.slice sa sn sc) (.slice ha hn hc))
  have FW := Lib.hid (fun u => Few_yes a n sa ha sn sc hn hc u f1 f2)
  have MK := Lib.hid (fun u => rMay_yes k l v b a n sa ha sn sc hn hc u h)
  have W1 := Lib.hid (fun u => rWeighs_yes m u x1 x2)
  have W2 := Lib.hid (fun u => rWeighs_yes m' u y1 y2)
  have W3 := Lib.hid (fun u => rWeighs_yes (m + m') u z1 z2)
  have g2 := h.next t1 t2 (show 0 ≤ m by omega)
  have Q1 := Ask_yes k l v b a n t m sa ha sn sc hn hc
  have Q2 := Ask_yes k l v b (tmax t a) (askHas l v a n t m) t m' none none 0 0 0 0
  have Q3 := Ask_yes k l v b a n t (m + m') sa ha sn sc hn hc
  have K1 := Lib.hid (fun u => Q1 u ⟨h, ⟨t1, t2⟩, ⟨x1, x2⟩⟩)
  have K2 := Lib.hid (fun u => Q2 u ⟨g2, ⟨t1, t2⟩, ⟨y1, y2⟩⟩)
  have K3 := Lib.hid (fun u => Q3 u ⟨h, ⟨t1, t2⟩, ⟨z1, z2⟩⟩)
  obtain ⟨l1, l2, v1, v2⟩ := h.1.lv
  have hR : 0 ≤ m := by omega
  have hm : 0 ≤ m := by omega
  have hm' : 0 ≤ m' := by omega
  obtain ⟨e1, e2, e3⟩ := parts_yes h1 h2
  unfold askV askRm askRs at K1 K2 K3
  rw [tmax_tmax, h2, e2, e3] at K2
  rw [h1] at K1
  rw [e1] at K3
  clear Q1 Q2 Q3 hR hm hm' g2 h1 h2 e1 e2 e3 h f1 f2 l1 l2 v1 v2
  generalize askHas l v a n t (m + m') = H3 at *
  generalize askRt l v a n t (m + m') = T3 at *
  generalize askRt l v a n t m = T1 at *
  generalize askHas l v a n t m = H1 at *
  generalize tmax t a = T at *
  generalize l - H1 = M1 at *
  generalize endF v T H1 - T = S1 at *
  generalize l - H3 = M3 at *
  generalize endF v T H3 - T = S3 at *
  skip
  go_enter Try.func7, Try.ntmps7
  go_wp2_with fail
  refine (FW.out _).mono ?_; rintro e w1 ⟨rfl, hb⟩
  have A1 := Lib.hid (A0.out.step hb)
  clear hb A0
  obtain ⟨⟨j0, j1, j2, j3⟩, ⟨j4, j5, j6, j7⟩, j8, j9, j10⟩ := A1.out.cells
  go_wp2_with fail
  refine (MK.out _).mono ?_; rintro e w2 ⟨rfl, hb⟩
  clear j0 j1 j2 j3 j4 j5 j6 j7 j8 j9 j10
  have A2 := Lib.hid (A1.out.step hb)
  clear hb A1
  obtain ⟨⟨j0, j1, j2, j3⟩, ⟨j4, j5, j6, j7⟩, j8, j9, j10⟩ := A2.out.cells
  go_wp2_with fail
  refine (W1.out _).mono ?_; rintro e w' ⟨rfl, rfl⟩
  go_wp2_with fail
  refine (W2.out _).mono ?_; rintro e w' ⟨rfl, rfl⟩
  go_wp2_with fail
  refine (W3.out _).mono ?_; rintro e w' ⟨rfl, rfl⟩
  clear j0 j1 j2 j3 j4 j5 j6 j7 j8 j9 j10
  obtain ⟨⟨j0, j1, j2, j3⟩, ⟨j4, j5, j6, j7⟩, j8, j9, j10⟩ := A2.out.cells
  go_wp2_with fail
  refine (K1.out _).mono ?_; rintro e w3 ⟨rfl, hb⟩
  clear j0 j1 j2 j3 j4 j5 j6 j7 j8 j9 j10
  have A3 := Lib.hid ((A2.out.step hb).two (.cells #[.int .i64 T, .int .i64 H1, .slice none 0 0, .slice none 0 0] 27) (.cells #[.bool true, .int .i64 M1, .int .i64 T1, .int .i64 S1] 32))
  have c3 := Lib.hid (made1 w3 27 [.int .i64 T, .int .i64 H1, .slice none 0 0, .slice none 0 0] (.cells #[.bool true, .int .i64 M1, .int .i64 T1, .int .i64 S1] 32))
  have u3 := Lib.hid (made2 w3 32 27 [.bool true, .int .i64 M1, .int .i64 T1, .int .i64 S1] (.cells #[.int .i64 T, .int .i64 H1, .slice none 0 0, .slice none 0 0] 27))
  clear hb A2
  obtain ⟨⟨j0, j1, j2, j3⟩, ⟨j4, j5, j6, j7⟩, j8, j9, j10⟩ := A3.out.cells
  obtain ⟨kc0, kc1, kc2, kc3⟩ := c3.out.four
  obtain ⟨ku0, ku1, ku2, ku3⟩ := u3.out.four
  go_wp2_with fail
  refine (K2.out _).mono ?_; rintro e w4 ⟨rfl, hb⟩
  clear j0 j1 j2 j3 j4 j5 j6 j7 j8 j9 j10
  clear kc0 kc1 kc2 kc3 ku0 ku1 ku2 ku3
  have A4 := Lib.hid ((A3.out.step hb).two (.cells #[.int .i64 T, .int .i64 H3, .slice none 0 0, .slice none 0 0] 27) (.cells #[.bool true, .int .i64 M3, .int .i64 T3, .int .i64 S3] 32))
  have c4 := Lib.hid (((c3.out.step hb).alloc (.cells #[.int .i64 T, .int .i64 H3, .slice none 0 0, .slice none 0 0] 27)).alloc (.cells #[.bool true, .int .i64 M3, .int .i64 T3, .int .i64 S3] 32))
  have u4 := Lib.hid (((u3.out.step hb).alloc (.cells #[.int .i64 T, .int .i64 H3, .slice none 0 0, .slice none 0 0] 27)).alloc (.cells #[.bool true, .int .i64 M3, .int .i64 T3, .int .i64 S3] 32))
  have d4 := Lib.hid (made1 w4 27 [.int .i64 T, .int .i64 H3, .slice none 0 0, .slice none 0 0] (.cells #[.bool true, .int .i64 M3, .int .i64 T3, .int .i64 S3] 32))
  have x4 := Lib.hid (made2 w4 32 27 [.bool true, .int .i64 M3, .int .i64 T3, .int .i64 S3] (.cells #[.int .i64 T, .int .i64 H3, .slice none 0 0, .slice none 0 0] 27))
  clear hb A3 c3 u3
  obtain ⟨⟨j0, j1, j2, j3⟩, ⟨j4, j5, j6, j7⟩, j8, j9, j10⟩ := A4.out.cells
  obtain ⟨kc0, kc1, kc2, kc3⟩ := c4.out.four
  obtain ⟨ku0, ku1, ku2, ku3⟩ := u4.out.four
  obtain ⟨kd0, kd1, kd2, kd3⟩ := d4.out.four
  obtain ⟨kx0, kx1, kx2, kx3⟩ := x4.out.four
  go_wp2_with fail
  refine (K3.out _).mono ?_; rintro e w5 ⟨rfl, hb⟩
  clear j0 j1 j2 j3 j4 j5 j6 j7 j8 j9 j10
  clear kc0 kc1 kc2 kc3 ku0 ku1 ku2 ku3 kd0 kd1 kd2 kd3 kx0 kx1 kx2 kx3
  have A5 := Lib.hid ((A4.out.step hb).two (.cells #[.int .i64 T, .int .i64 H3, .slice none 0 0, .slice none 0 0] 27) (.cells #[.bool true, .int .i64 M3, .int .i64 T3, .int .i64 S3] 32))
  have c5 := Lib.hid (((c4.out.step hb).alloc (.cells #[.int .i64 T, .int .i64 H3, .slice none 0 0, .slice none 0 0] 27)).alloc (.cells #[.bool true, .int .i64 M3, .int .i64 T3, .int .i64 S3] 32))
  have u5 := Lib.hid (((u4.out.step hb).alloc (.cells #[.int .i64 T, .int .i64 H3, .slice none 0 0, .slice none 0 0] 27)).alloc (.cells #[.bool true, .int .i64 M3, .int .i64 T3, .int .i64 S3] 32))
  have d5 := Lib.hid (((d4.out.step hb).alloc (.cells #[.int .i64 T, .int .i64 H3, .slice none 0 0, .slice none 0 0] 27)).alloc (.cells #[.bool true, .int .i64 M3, .int .i64 T3, .int .i64 S3] 32))
  have x5 := Lib.hid (((x4.out.step hb).alloc (.cells #[.int .i64 T, .int .i64 H3, .slice none 0 0, .slice none 0 0] 27)).alloc (.cells #[.bool true, .int .i64 M3, .int .i64 T3, .int .i64 S3] 32))
  have f5 := Lib.hid (made1 w5 27 [.int .i64 T, .int .i64 H3, .slice none 0 0, .slice none 0 0] (.cells #[.bool true, .int .i64 M3, .int .i64 T3, .int .i64 S3] 32))
  have z5 := Lib.hid (made2 w5 32 27 [.bool true, .int .i64 M3, .int .i64 T3, .int .i64 S3] (.cells #[.int .i64 T, .int .i64 H3, .slice none 0 0, .slice none 0 0] 27))
  clear hb A4 c4 u4 d4 x4
  obtain ⟨ku0, ku1, ku2, ku3⟩ := u5.out.four
  obtain ⟨kd0, kd1, kd2, kd3⟩ := d5.out.four
  obtain ⟨kx0, kx1, kx2, kx3⟩ := x5.out.four
  obtain ⟨kf0, kf1, kf2, kf3⟩ := f5.out.four
  obtain ⟨kz0, kz1, kz2, kz3⟩ := z5.out.four
  go_wp2_with fail
  refine (Same_0 T H3 _).mono ?_; rintro e w6 ⟨rfl, hb⟩
  clear ku0 ku1 ku2 ku3 kd0 kd1 kd2 kd3 kx0 kx1 kx2 kx3 kf0 kf1 kf2 kf3 kz0 kz1 kz2 kz3
  have A6 := Lib.hid (A5.out.step hb)
  have x6 := Lib.hid (x5.out.step hb)
  have z6 := Lib.hid (z5.out.step hb)
  obtain ⟨kx0, kx1, kx2, kx3⟩ := x6.out.four
  obtain ⟨kz0, kz1, kz2, kz3⟩ := z6.out.four
  clear hb
  go_wp2_with fail
  refine (live_any _).mono ?_; rintro e wl ⟨rfl, hb⟩
  have AL := Lib.hid (A6.out.step hb)
  clear hb
  go_wp2_with fail
  go_ret
  exact ⟨rfl, AL.out.be⟩

set_option maxRecDepth 100000 in
set_option maxHeartbeats 4000000 in
theorem y_tf (k l v b a n t m m' : Int) (sa ha : Option Addr) (sn sc hn hc : Nat) (W : World) (f1 : sn ≤ 40) (f2 : hn ≤ 40) (h : MayG k l v b a n sn hn) (x1 : 1 ≤ m) (x2 : m ≤ 1048576) (y1 : 1 ≤ m') (y2 : m' ≤ 1048576) (z1 : 1 ≤ (m + m')) (z2 : (m + m') ≤ 1048576) (t1 : 0 ≤ t) (t2 : t ≤ 1099511627776) (h1 : askAl l v a n t m = true) (h2 : askAl l v (tmax t a) (askHas l v a n t m) t m' = false) :
    Calls Try.prog 7 #[.agg #[.int .i64 k, .int .i64 l, .int .i64 v, .int .i64 b], .agg #[.int .i64 a, .int .i64 n, .slice sa sn sc, .slice ha hn hc], .agg #[.int .i64 t, .int .i64 m, .int .i64 m']] W fun e w' => e = .returned (.bool true) ∧ Below W.heap.size W w' := by
  have A0 := Lib.hid (At.made W k l v b a n t m m' (.slice sa sn sc) (.slice ha hn hc))
  have FW := Lib.hid (fun u => Few_yes a n sa ha sn sc hn hc u f1 f2)
  have MK := Lib.hid (fun u => rMay_yes k l v b a n sa ha sn sc hn hc u h)
  have W1 := Lib.hid (fun u => rWeighs_yes m u x1 x2)
  have W2 := Lib.hid (fun u => rWeighs_yes m' u y1 y2)
  have W3 := Lib.hid (fun u => rWeighs_yes (m + m') u z1 z2)
  have g2 := h.next t1 t2 (show 0 ≤ m by omega)
  have Q1 := Ask_yes k l v b a n t m sa ha sn sc hn hc
  have Q2 := Ask_yes k l v b (tmax t a) (askHas l v a n t m) t m' none none 0 0 0 0
  have Q3 := Ask_yes k l v b a n t (m + m') sa ha sn sc hn hc
  have K1 := Lib.hid (fun u => Q1 u ⟨h, ⟨t1, t2⟩, ⟨x1, x2⟩⟩)
  have K2 := Lib.hid (fun u => Q2 u ⟨g2, ⟨t1, t2⟩, ⟨y1, y2⟩⟩)
  have K3 := Lib.hid (fun u => Q3 u ⟨h, ⟨t1, t2⟩, ⟨z1, z2⟩⟩)
  obtain ⟨l1, l2, v1, v2⟩ := h.1.lv
  have hR : 0 ≤ m := by omega
  have hm : 0 ≤ m := by omega
  have hm' : 0 ≤ m' := by omega
  have e1 := parts_no hm' (.inr h2)
  unfold askV askRm askRs at K1 K2 K3
  rw [tmax_tmax, h2] at K2
  rw [h1] at K1
  rw [e1] at K3
  clear Q1 Q2 Q3 hR hm hm' g2 h1 h2 e1 h f1 f2 l1 l2 v1 v2
  generalize askHas l v (tmax t a) (askHas l v a n t m) t m' = H2 at *
  generalize askRt l v (tmax t a) (askHas l v a n t m) t m' = T2 at *
  generalize askHas l v a n t (m + m') = H3 at *
  generalize askRt l v a n t (m + m') = T3 at *
  generalize askRt l v a n t m = T1 at *
  generalize askHas l v a n t m = H1 at *
  generalize tmax t a = T at *
  generalize l - H1 = M1 at *
  generalize endF v T H1 - T = S1 at *
  generalize l - H2 = M2 at *
  generalize endF v T H2 - T = S2 at *
  generalize l - H3 = M3 at *
  generalize endF v T H3 - T = S3 at *
  skip
  go_enter Try.func7, Try.ntmps7
  go_wp2_with fail
  refine (FW.out _).mono ?_; rintro e w1 ⟨rfl, hb⟩
  have A1 := Lib.hid (A0.out.step hb)
  clear hb A0
  obtain ⟨⟨j0, j1, j2, j3⟩, ⟨j4, j5, j6, j7⟩, j8, j9, j10⟩ := A1.out.cells
  go_wp2_with fail
  refine (MK.out _).mono ?_; rintro e w2 ⟨rfl, hb⟩
  clear j0 j1 j2 j3 j4 j5 j6 j7 j8 j9 j10
  have A2 := Lib.hid (A1.out.step hb)
  clear hb A1
  obtain ⟨⟨j0, j1, j2, j3⟩, ⟨j4, j5, j6, j7⟩, j8, j9, j10⟩ := A2.out.cells
  go_wp2_with fail
  refine (W1.out _).mono ?_; rintro e w' ⟨rfl, rfl⟩
  go_wp2_with fail
  refine (W2.out _).mono ?_; rintro e w' ⟨rfl, rfl⟩
  go_wp2_with fail
  refine (W3.out _).mono ?_; rintro e w' ⟨rfl, rfl⟩
  clear j0 j1 j2 j3 j4 j5 j6 j7 j8 j9 j10
  obtain ⟨⟨j0, j1, j2, j3⟩, ⟨j4, j5, j6, j7⟩, j8, j9, j10⟩ := A2.out.cells
  go_wp2_with fail
  refine (K1.out _).mono ?_; rintro e w3 ⟨rfl, hb⟩
  clear j0 j1 j2 j3 j4 j5 j6 j7 j8 j9 j10
  have A3 := Lib.hid ((A2.out.step hb).two (.cells #[.int .i64 T, .int .i64 H1, .slice none 0 0, .slice none 0 0] 27) (.cells #[.bool true, .int .i64 M1, .int .i64 T1, .int .i64 S1] 32))
  have c3 := Lib.hid (made1 w3 27 [.int .i64 T, .int .i64 H1, .slice none 0 0, .slice none 0 0] (.cells #[.bool true, .int .i64 M1, .int .i64 T1, .int .i64 S1] 32))
  have u3 := Lib.hid (made2 w3 32 27 [.bool true, .int .i64 M1, .int .i64 T1, .int .i64 S1] (.cells #[.int .i64 T, .int .i64 H1, .slice none 0 0, .slice none 0 0] 27))
  clear hb A2
  obtain ⟨⟨j0, j1, j2, j3⟩, ⟨j4, j5, j6, j7⟩, j8, j9, j10⟩ := A3.out.cells
  obtain ⟨kc0, kc1, kc2, kc3⟩ := c3.out.four
  obtain ⟨ku0, ku1, ku2, ku3⟩ := u3.out.four
  go_wp2_with fail
  refine (K2.out _).mono ?_; rintro e w4 ⟨rfl, hb⟩
  clear j0 j1 j2 j3 j4 j5 j6 j7 j8 j9 j10
  clear kc0 kc1 kc2 kc3 ku0 ku1 ku2 ku3
  have A4 := Lib.hid ((A3.out.step hb).two (.cells #[.int .i64 T, .int .i64 H2, .slice none 0 0, .slice none 0 0] 27) (.cells #[.bool false, .int .i64 M2, .int .i64 T2, .int .i64 S2] 32))
  have c4 := Lib.hid (((c3.out.step hb).alloc (.cells #[.int .i64 T, .int .i64 H2, .slice none 0 0, .slice none 0 0] 27)).alloc (.cells #[.bool false, .int .i64 M2, .int .i64 T2, .int .i64 S2] 32))
  have u4 := Lib.hid (((u3.out.step hb).alloc (.cells #[.int .i64 T, .int .i64 H2, .slice none 0 0, .slice none 0 0] 27)).alloc (.cells #[.bool false, .int .i64 M2, .int .i64 T2, .int .i64 S2] 32))
  have d4 := Lib.hid (made1 w4 27 [.int .i64 T, .int .i64 H2, .slice none 0 0, .slice none 0 0] (.cells #[.bool false, .int .i64 M2, .int .i64 T2, .int .i64 S2] 32))
  have x4 := Lib.hid (made2 w4 32 27 [.bool false, .int .i64 M2, .int .i64 T2, .int .i64 S2] (.cells #[.int .i64 T, .int .i64 H2, .slice none 0 0, .slice none 0 0] 27))
  clear hb A3 c3 u3
  obtain ⟨⟨j0, j1, j2, j3⟩, ⟨j4, j5, j6, j7⟩, j8, j9, j10⟩ := A4.out.cells
  obtain ⟨kc0, kc1, kc2, kc3⟩ := c4.out.four
  obtain ⟨ku0, ku1, ku2, ku3⟩ := u4.out.four
  obtain ⟨kd0, kd1, kd2, kd3⟩ := d4.out.four
  obtain ⟨kx0, kx1, kx2, kx3⟩ := x4.out.four
  go_wp2_with fail
  refine (K3.out _).mono ?_; rintro e w5 ⟨rfl, hb⟩
  clear j0 j1 j2 j3 j4 j5 j6 j7 j8 j9 j10
  clear kc0 kc1 kc2 kc3 ku0 ku1 ku2 ku3 kd0 kd1 kd2 kd3 kx0 kx1 kx2 kx3
  have A5 := Lib.hid ((A4.out.step hb).two (.cells #[.int .i64 T, .int .i64 H3, .slice none 0 0, .slice none 0 0] 27) (.cells #[.bool false, .int .i64 M3, .int .i64 T3, .int .i64 S3] 32))
  have c5 := Lib.hid (((c4.out.step hb).alloc (.cells #[.int .i64 T, .int .i64 H3, .slice none 0 0, .slice none 0 0] 27)).alloc (.cells #[.bool false, .int .i64 M3, .int .i64 T3, .int .i64 S3] 32))
  have u5 := Lib.hid (((u4.out.step hb).alloc (.cells #[.int .i64 T, .int .i64 H3, .slice none 0 0, .slice none 0 0] 27)).alloc (.cells #[.bool false, .int .i64 M3, .int .i64 T3, .int .i64 S3] 32))
  have d5 := Lib.hid (((d4.out.step hb).alloc (.cells #[.int .i64 T, .int .i64 H3, .slice none 0 0, .slice none 0 0] 27)).alloc (.cells #[.bool false, .int .i64 M3, .int .i64 T3, .int .i64 S3] 32))
  have x5 := Lib.hid (((x4.out.step hb).alloc (.cells #[.int .i64 T, .int .i64 H3, .slice none 0 0, .slice none 0 0] 27)).alloc (.cells #[.bool false, .int .i64 M3, .int .i64 T3, .int .i64 S3] 32))
  have f5 := Lib.hid (made1 w5 27 [.int .i64 T, .int .i64 H3, .slice none 0 0, .slice none 0 0] (.cells #[.bool false, .int .i64 M3, .int .i64 T3, .int .i64 S3] 32))
  have z5 := Lib.hid (made2 w5 32 27 [.bool false, .int .i64 M3, .int .i64 T3, .int .i64 S3] (.cells #[.int .i64 T, .int .i64 H3, .slice none 0 0, .slice none 0 0] 27))
  clear hb A4 c4 u4 d4 x4
  obtain ⟨ku0, ku1, ku2, ku3⟩ := u5.out.four
  obtain ⟨kd0, kd1, kd2, kd3⟩ := d5.out.four
  obtain ⟨kx0, kx1, kx2, kx3⟩ := x5.out.four
  obtain ⟨kf0, kf1, kf2, kf3⟩ := f5.out.four
  obtain ⟨kz0, kz1, kz2, kz3⟩ := z5.out.four
  go_wp2_with fail
  refine (live_any _).mono ?_; rintro e wl ⟨rfl, hb⟩
  have AL := Lib.hid (A5.out.step hb)
  clear hb
  go_wp2_with fail
  go_ret
  exact ⟨rfl, AL.out.be⟩

set_option maxRecDepth 100000 in
set_option maxHeartbeats 4000000 in
theorem y_f (k l v b a n t m m' : Int) (sa ha : Option Addr) (sn sc hn hc : Nat) (W : World) (f1 : sn ≤ 40) (f2 : hn ≤ 40) (h : MayG k l v b a n sn hn) (x1 : 1 ≤ m) (x2 : m ≤ 1048576) (y1 : 1 ≤ m') (y2 : m' ≤ 1048576) (z1 : 1 ≤ (m + m')) (z2 : (m + m') ≤ 1048576) (t1 : 0 ≤ t) (t2 : t ≤ 1099511627776) (h1 : askAl l v a n t m = false) :
    Calls Try.prog 7 #[.agg #[.int .i64 k, .int .i64 l, .int .i64 v, .int .i64 b], .agg #[.int .i64 a, .int .i64 n, .slice sa sn sc, .slice ha hn hc], .agg #[.int .i64 t, .int .i64 m, .int .i64 m']] W fun e w' => e = .returned (.bool true) ∧ Below W.heap.size W w' := by
  have A0 := Lib.hid (At.made W k l v b a n t m m' (.slice sa sn sc) (.slice ha hn hc))
  have FW := Lib.hid (fun u => Few_yes a n sa ha sn sc hn hc u f1 f2)
  have MK := Lib.hid (fun u => rMay_yes k l v b a n sa ha sn sc hn hc u h)
  have W1 := Lib.hid (fun u => rWeighs_yes m u x1 x2)
  have W2 := Lib.hid (fun u => rWeighs_yes m' u y1 y2)
  have W3 := Lib.hid (fun u => rWeighs_yes (m + m') u z1 z2)
  have g2 := h.next t1 t2 (show 0 ≤ m by omega)
  have Q1 := Ask_yes k l v b a n t m sa ha sn sc hn hc
  have Q2 := Ask_yes k l v b (tmax t a) (askHas l v a n t m) t m' none none 0 0 0 0
  have Q3 := Ask_yes k l v b a n t (m + m') sa ha sn sc hn hc
  have K1 := Lib.hid (fun u => Q1 u ⟨h, ⟨t1, t2⟩, ⟨x1, x2⟩⟩)
  have K2 := Lib.hid (fun u => Q2 u ⟨g2, ⟨t1, t2⟩, ⟨y1, y2⟩⟩)
  have K3 := Lib.hid (fun u => Q3 u ⟨h, ⟨t1, t2⟩, ⟨z1, z2⟩⟩)
  obtain ⟨l1, l2, v1, v2⟩ := h.1.lv
  have hR : 0 ≤ m := by omega
  have hm : 0 ≤ m := by omega
  have hm' : 0 ≤ m' := by omega
  have e1 := parts_no hm' (.inl h1)
  unfold askV askRm askRs at K1 K2 K3
  rw [tmax_tmax] at K2
  rw [h1] at K1
  rw [e1] at K3
  clear Q1 Q2 Q3 hR hm hm' g2 h1 e1 h f1 f2 l1 l2 v1 v2
  generalize askHas l v (tmax t a) (askHas l v a n t m) t m' = H2 at *
  generalize askRt l v (tmax t a) (askHas l v a n t m) t m' = T2 at *
  generalize askHas l v a n t (m + m') = H3 at *
  generalize askRt l v a n t (m + m') = T3 at *
  generalize askAl l v (tmax t a) (askHas l v a n t m) t m' = L2 at *
  generalize askRt l v a n t m = T1 at *
  generalize askHas l v a n t m = H1 at *
  generalize tmax t a = T at *
  generalize l - H1 = M1 at *
  generalize endF v T H1 - T = S1 at *
  generalize l - H2 = M2 at *
  generalize endF v T H2 - T = S2 at *
  generalize l - H3 = M3 at *
  generalize endF v T H3 - T = S3 at *
  skip
  go_enter Try.func7, Try.ntmps7
  go_wp2_with fail
  refine (FW.out _).mono ?_; rintro e w1 ⟨rfl, hb⟩
  have A1 := Lib.hid (A0.out.step hb)
  clear hb A0
  obtain ⟨⟨j0, j1, j2, j3⟩, ⟨j4, j5, j6, j7⟩, j8, j9, j10⟩ := A1.out.cells
  go_wp2_with fail
  refine (MK.out _).mono ?_; rintro e w2 ⟨rfl, hb⟩
  clear j0 j1 j2 j3 j4 j5 j6 j7 j8 j9 j10
  have A2 := Lib.hid (A1.out.step hb)
  clear hb A1
  obtain ⟨⟨j0, j1, j2, j3⟩, ⟨j4, j5, j6, j7⟩, j8, j9, j10⟩ := A2.out.cells
  go_wp2_with fail
  refine (W1.out _).mono ?_; rintro e w' ⟨rfl, rfl⟩
  go_wp2_with fail
  refine (W2.out _).mono ?_; rintro e w' ⟨rfl, rfl⟩
  go_wp2_with fail
  refine (W3.out _).mono ?_; rintro e w' ⟨rfl, rfl⟩
  clear j0 j1 j2 j3 j4 j5 j6 j7 j8 j9 j10
  obtain ⟨⟨j0, j1, j2, j3⟩, ⟨j4, j5, j6, j7⟩, j8, j9, j10⟩ := A2.out.cells
  go_wp2_with fail
  refine (K1.out _).mono ?_; rintro e w3 ⟨rfl, hb⟩
  clear j0 j1 j2 j3 j4 j5 j6 j7 j8 j9 j10
  have A3 := Lib.hid ((A2.out.step hb).two (.cells #[.int .i64 T, .int .i64 H1, .slice none 0 0, .slice none 0 0] 27) (.cells #[.bool false, .int .i64 M1, .int .i64 T1, .int .i64 S1] 32))
  have c3 := Lib.hid (made1 w3 27 [.int .i64 T, .int .i64 H1, .slice none 0 0, .slice none 0 0] (.cells #[.bool false, .int .i64 M1, .int .i64 T1, .int .i64 S1] 32))
  have u3 := Lib.hid (made2 w3 32 27 [.bool false, .int .i64 M1, .int .i64 T1, .int .i64 S1] (.cells #[.int .i64 T, .int .i64 H1, .slice none 0 0, .slice none 0 0] 27))
  clear hb A2
  obtain ⟨⟨j0, j1, j2, j3⟩, ⟨j4, j5, j6, j7⟩, j8, j9, j10⟩ := A3.out.cells
  obtain ⟨kc0, kc1, kc2, kc3⟩ := c3.out.four
  obtain ⟨ku0, ku1, ku2, ku3⟩ := u3.out.four
  go_wp2_with fail
  refine (K2.out _).mono ?_; rintro e w4 ⟨rfl, hb⟩
  clear j0 j1 j2 j3 j4 j5 j6 j7 j8 j9 j10
  clear kc0 kc1 kc2 kc3 ku0 ku1 ku2 ku3
  have A4 := Lib.hid ((A3.out.step hb).two (.cells #[.int .i64 T, .int .i64 H2, .slice none 0 0, .slice none 0 0] 27) (.cells #[.bool L2, .int .i64 M2, .int .i64 T2, .int .i64 S2] 32))
  have c4 := Lib.hid (((c3.out.step hb).alloc (.cells #[.int .i64 T, .int .i64 H2, .slice none 0 0, .slice none 0 0] 27)).alloc (.cells #[.bool L2, .int .i64 M2, .int .i64 T2, .int .i64 S2] 32))
  have u4 := Lib.hid (((u3.out.step hb).alloc (.cells #[.int .i64 T, .int .i64 H2, .slice none 0 0, .slice none 0 0] 27)).alloc (.cells #[.bool L2, .int .i64 M2, .int .i64 T2, .int .i64 S2] 32))
  have d4 := Lib.hid (made1 w4 27 [.int .i64 T, .int .i64 H2, .slice none 0 0, .slice none 0 0] (.cells #[.bool L2, .int .i64 M2, .int .i64 T2, .int .i64 S2] 32))
  have x4 := Lib.hid (made2 w4 32 27 [.bool L2, .int .i64 M2, .int .i64 T2, .int .i64 S2] (.cells #[.int .i64 T, .int .i64 H2, .slice none 0 0, .slice none 0 0] 27))
  clear hb A3 c3 u3
  obtain ⟨⟨j0, j1, j2, j3⟩, ⟨j4, j5, j6, j7⟩, j8, j9, j10⟩ := A4.out.cells
  obtain ⟨kc0, kc1, kc2, kc3⟩ := c4.out.four
  obtain ⟨ku0, ku1, ku2, ku3⟩ := u4.out.four
  obtain ⟨kd0, kd1, kd2, kd3⟩ := d4.out.four
  obtain ⟨kx0, kx1, kx2, kx3⟩ := x4.out.four
  go_wp2_with fail
  refine (K3.out _).mono ?_; rintro e w5 ⟨rfl, hb⟩
  clear j0 j1 j2 j3 j4 j5 j6 j7 j8 j9 j10
  clear kc0 kc1 kc2 kc3 ku0 ku1 ku2 ku3 kd0 kd1 kd2 kd3 kx0 kx1 kx2 kx3
  have A5 := Lib.hid ((A4.out.step hb).two (.cells #[.int .i64 T, .int .i64 H3, .slice none 0 0, .slice none 0 0] 27) (.cells #[.bool false, .int .i64 M3, .int .i64 T3, .int .i64 S3] 32))
  have c5 := Lib.hid (((c4.out.step hb).alloc (.cells #[.int .i64 T, .int .i64 H3, .slice none 0 0, .slice none 0 0] 27)).alloc (.cells #[.bool false, .int .i64 M3, .int .i64 T3, .int .i64 S3] 32))
  have u5 := Lib.hid (((u4.out.step hb).alloc (.cells #[.int .i64 T, .int .i64 H3, .slice none 0 0, .slice none 0 0] 27)).alloc (.cells #[.bool false, .int .i64 M3, .int .i64 T3, .int .i64 S3] 32))
  have d5 := Lib.hid (((d4.out.step hb).alloc (.cells #[.int .i64 T, .int .i64 H3, .slice none 0 0, .slice none 0 0] 27)).alloc (.cells #[.bool false, .int .i64 M3, .int .i64 T3, .int .i64 S3] 32))
  have x5 := Lib.hid (((x4.out.step hb).alloc (.cells #[.int .i64 T, .int .i64 H3, .slice none 0 0, .slice none 0 0] 27)).alloc (.cells #[.bool false, .int .i64 M3, .int .i64 T3, .int .i64 S3] 32))
  have f5 := Lib.hid (made1 w5 27 [.int .i64 T, .int .i64 H3, .slice none 0 0, .slice none 0 0] (.cells #[.bool false, .int .i64 M3, .int .i64 T3, .int .i64 S3] 32))
  have z5 := Lib.hid (made2 w5 32 27 [.bool false, .int .i64 M3, .int .i64 T3, .int .i64 S3] (.cells #[.int .i64 T, .int .i64 H3, .slice none 0 0, .slice none 0 0] 27))
  clear hb A4 c4 u4 d4 x4
  obtain ⟨ku0, ku1, ku2, ku3⟩ := u5.out.four
  obtain ⟨kd0, kd1, kd2, kd3⟩ := d5.out.four
  obtain ⟨kx0, kx1, kx2, kx3⟩ := x5.out.four
  obtain ⟨kf0, kf1, kf2, kf3⟩ := f5.out.four
  obtain ⟨kz0, kz1, kz2, kz3⟩ := z5.out.four
  go_wp2_with fail
  refine (live_any _).mono ?_; rintro e wl ⟨rfl, hb⟩
  have AL := Lib.hid (A5.out.step hb)
  clear hb
  go_wp2_with fail
  go_ret
  exact ⟨rfl, AL.out.be⟩

theorem walk (k l v b : Int) (c : CellV) (t m m' : Int) (h0 : (Lit.int .i64 k).wf = true) (h1 : (Lit.int .i64 l).wf = true) (h2 : (Lit.int .i64 v).wf = true) (h3 : (Lit.int .i64 b).wf = true) {W : World} (hc : IsCell W c) (i0 : (Lit.int .i64 t).wf = true) (i1 : (Lit.int .i64 m).wf = true) (i2 : (Lit.int .i64 m').wf = true) :
    Calls Try.prog 7 #[.agg #[.int .i64 k, .int .i64 l, .int .i64 v, .int .i64 b], .agg #[.int .i64 c.a, .int .i64 c.n, .slice c.sa c.sn c.sc, .slice c.ha c.hn c.hc], .agg ([t, m, m'].map (Value.int .i64)).toArray] W fun e w' => e = .returned (.bool true) ∧ Below W.heap.size W w' := by
  obtain ⟨q1, q2⟩ := hc.len
  show Calls Try.prog 7 #[.agg #[.int .i64 k, .int .i64 l, .int .i64 v, .int .i64 b], .agg #[.int .i64 c.a, .int .i64 c.n, .slice c.sa c.sn c.sc, .slice c.ha c.hn c.hc], .agg #[.int .i64 t, .int .i64 m, .int .i64 m']] W fun e w' => e = .returned (.bool true) ∧ Below W.heap.size W w'
  by_cases f : c.sn ≤ 40 ∧ c.hn ≤ 40
  · by_cases g : MayG k l v b c.a c.n c.sn c.hn
    · by_cases x : 1 ≤ m ∧ m ≤ 1048576
      · by_cases y : 1 ≤ m' ∧ m' ≤ 1048576
        · by_cases z : 1 ≤ m + m' ∧ m + m' ≤ 1048576
          · by_cases ht : 0 ≤ t ∧ t ≤ 1099511627776
            · cases e1 : askAl l v c.a c.n t m with
              | false => exact y_f k l v b c.a c.n t m m' c.sa c.ha c.sn c.sc c.hn c.hc W f.1 f.2 g x.1 x.2 y.1 y.2 z.1 z.2 ht.1 ht.2 e1
              | true =>
                cases e2 : askAl l v (tmax t c.a) (askHas l v c.a c.n t m) t m' with
                | false => exact y_tf k l v b c.a c.n t m m' c.sa c.ha c.sn c.sc c.hn c.hc W f.1 f.2 g x.1 x.2 y.1 y.2 z.1 z.2 ht.1 ht.2 e1 e2
                | true => exact y_tt k l v b c.a c.n t m m' c.sa c.ha c.sn c.sc c.hn c.hc W f.1 f.2 g x.1 x.2 y.1 y.2 z.1 z.2 ht.1 ht.2 e1 e2
            · exact n5 k l v b c.a c.n t m m' c.sa c.ha c.sn c.sc c.hn c.hc W f.1 f.2 g x.1 x.2 y.1 y.2 z.1 z.2 ht
          · exact n4 k l v b c.a c.n t m m' c.sa c.ha c.sn c.sc c.hn c.hc W f.1 f.2 g x.1 x.2 y.1 y.2 z
        · exact n3 k l v b c.a c.n t m m' c.sa c.ha c.sn c.sc c.hn c.hc W f.1 f.2 g x.1 x.2 y
      · exact n2 k l v b c.a c.n t m m' c.sa c.ha c.sn c.sc c.hn c.hc W f.1 f.2 g x
    · exact n1 k l v b c.a c.n t m m' c.sa c.ha c.sn c.sc c.hn c.hc W f.1 f.2 g
  · exact n0 k l v b c.a c.n t m m' c.sa c.ha c.sn c.sc c.hn c.hc W f q1 q2

theorem own : ownKnob Try.prog.godebug = none := by kernel_rfl
theorem laidOut : laidOutB Try.prog = true := by kernel_rfl
theorem contract (H : Type) (enc : TypeId × Value → H) (W : World) (base : Nat) (args : Array Value) (ds gs : List (DataW H)) (before : List MemPlace)
    (hval : ∀ (j : Nat) t v, Try.f7.params[j]? = some t → args[j]? = some v → Value.okWide Try.prog W .any base t v)
    (hW : DataW.Whole enc Try.prog Try.f7.params.toList Rows.fixedPartsSpec.vars false W args.toList ds gs before) :
    Calls Try.prog 7 args W fun e W' => ∃ v, e = .returned v ∧ Rows.fixedPartsSpec.post enc Try.prog Try.f7 false true false false W args v W' := by
  have hW' := hW
  obtain ⟨p, q, hA0, hV, rfl, hfz, hnd⟩ := hW
  have hA : DataW.TrodAll enc Try.prog W 0 (fun _ => true) true Try.f7.params.toList args.toList ds p := hA0
  rw [Try.params7] at hA hval
  obtain ⟨v0, vs0, d0, ds0, p0, q0, hargs, rfl, rfl, h0, r0⟩ := trodAll_cons hA
  obtain ⟨v1, vs1, d1, ds1, p1, q1, rfl, rfl, rfl, h1, r1⟩ := trodAll_cons r0
  obtain ⟨v2, vs2, d2, ds2, p2, q2, rfl, rfl, rfl, h2, r2⟩ := trodAll_cons r1
  obtain ⟨rfl, rfl, rfl⟩ := trodAll_nil r2
  obtain rfl : args = #[v0, v1, v2] := by cases args; simp_all
  obtain ⟨rfl, rfl⟩ := trodVars_none hV
  have k0 := h0
  have lt0 : ∀ x ∈ p0, x.block < W.heap.size := by obtain ⟨m, hm⟩ := k0; exact DataW.trod_lt m _ _ _ hm
  obtain ⟨p0_k, p0_l, p0_v, p0_b, rfl, wp0_k, wp0_l, wp0_v, wp0_b⟩ := open_pol (hval 0 23 v0 rfl rfl) h0
  have k1 := h1
  have lt1 : ∀ x ∈ p1, x.block < W.heap.size := by obtain ⟨m, hm⟩ := k1; exact DataW.trod_lt m _ _ _ hm
  obtain ⟨c1, rfl, w1⟩ := open_cell (hval 1 27 v1 rfl rfl) h1
  have k2 := h2
  have lt2 : ∀ x ∈ p2, x.block < W.heap.size := by obtain ⟨m, hm⟩ := k2; exact DataW.trod_lt m _ _ _ hm
  obtain ⟨l2, rfl, hl2, wl2⟩ := open_arr_int Try.underlying47 Try.underlying3 (by kernel_rfl) (by kernel_rfl) (hval 2 47 v2 rfl rfl) h2
  obtain ⟨x2_0, x2_1, x2_2, rfl⟩ : ∃ x2_0 x2_1 x2_2, l2 = [x2_0, x2_1, x2_2] := by
    match l2, hl2 with
    | [x2_0, x2_1, x2_2], _ => exact ⟨x2_0, x2_1, x2_2, rfl⟩
  clear hA0
  refine (walk p0_k p0_l p0_v p0_b c1 x2_0 x2_1 x2_2 wp0_k wp0_l wp0_v wp0_b w1 (wl2 x2_0 (by simp)) (wl2 x2_1 (by simp)) (wl2 x2_2 (by simp))).mono fun e W' ⟨he, bel⟩ => ?_
  subst he
  exact ⟨_, rfl, _, _, _, [], _, [], hW', trodAll_mk1 (shut_bool Try.underlying4 _), (trodAll_cons_mk (Below.trod laidOut (by kernel_rfl) (of_decide_eq_true (by kernel_rfl)) k0 bel lt0) (trodAll_cons_mk (Below.trod laidOut (by kernel_rfl) (of_decide_eq_true (by kernel_rfl)) k1 bel lt1) (trodAll_cons_mk (Below.trod laidOut (by kernel_rfl) (of_decide_eq_true (by kernel_rfl)) k2 bel lt2) trodAll_mk0))), rfl, bel.frame _, fun h => by cases h⟩

set_option maxRecDepth 100000 in
theorem lifted (os : Os) (started : os.Started) (H : Type) (enc : TypeId × Value → H) :
    ReturnsInHanded {} Try.checked os 7 .any (Rows.fixedPartsSpec.pre6 enc Try.prog Try.f7 Rows.fixedPartsRow.domain false) (Rows.fixedPartsSpec.post enc Try.prog Try.f7 false true false false) := by
  refine returnsInHanded_of_change (C := Try.checked) own started (by kernel_rfl) Try.func7
    (ChangeSpec.witness6 (enc := enc) (C := Try.checked) false ⟨#[], #[.agg #[.int .i64 0, .int .i64 0, .int .i64 0, .int .i64 0], .agg #[.int .i64 0, .int .i64 0, .slice none 0 0, .slice none 0 0], .agg #[.int .i64 0, .int .i64 0, .int .i64 0]], []⟩ 8 (by kernel_rfl) (by kernel_rfl) (by kernel_rfl) (by kernel_rfl)) ?_
  intro W base args ds gs before hval hW _ _
  exact contract H enc W base args ds gs before hval hW

theorem over : Rows.fixedPartsRow.holds Try.pinned (OpenSpec.ofChange Rows.fixedPartsSpec) :=
  OpenClaim.holds_of_wide 7 Try.f7 rfl rfl rfl rfl rfl rfl rfl ⟨rfl, rfl, rfl, rfl, rfl⟩ rfl rfl rfl rfl rfl (by kernel_rfl) Try.func7 (by kernel_rfl)
    (of_decide_eq_true (by kernel_rfl)) (by unfold Func.isWrapper; first | (rw [if_pos (by decide +kernel)]; kernel_rfl) | (rw [if_neg (by decide +kernel)]; exact ⟨rfl, rfl⟩))
    (fun os started H enc _ => lifted os started H enc)
end Go.Proofs.Ytdmephlappmmdab.fixedParts
namespace Go.Proofs.Ytdmephlappmmdab
theorem fixedParts_proved : Rows.FixedPartsSaid := fixedParts.over
end Go.Proofs.Ytdmephlappmmdab

