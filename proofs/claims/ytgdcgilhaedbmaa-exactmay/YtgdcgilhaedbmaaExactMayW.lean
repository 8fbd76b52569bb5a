/- The walk of the law ExactMay, over contracts that are handed in. WRITTEN BY gen_may.py. -/
import Derived.Test.YtgdcgilhaedbmaaRows
import Derived.Test.YtgdcgilhaedbmaaExLive
import Derived.Test.YtgdcgilhaedbmaaCel0
import Derived.Deep.RegionHeld3
import Derived.Deep.DeepCutAuto
import Derived.Deep.RegionWith
namespace Go.Proofs.Ytgdcgilhaedbmaa.exactMay
open Go.ChangeShapes Go.WideShapes Go.ChangeAt Go.RowKit
set_option linter.unusedVariables false

/-- What lies in a world lies in each one that comes of it by new blocks. -/
def Stays (G : World → Prop) : Prop := ∀ u u', G u → Below u.heap.size u u' → G u'
/-- What an ask told of a cell in which nobody is interested. -/
def Told (al : Bool) (w : World) (e : Ending) (w' : World) : Prop := ∃ (x0 x1 : Int) (xa ya : Option Addr) (xn xc yn yc : Nat) (v1 v2 v3 : Int), e = .returned (.tuple #[.agg #[.int .i64 x0, .int .i64 x1, .slice xa xn xc, .slice ya yn yc], .agg #[.bool al, .int .i64 v1, .int .i64 v2, .int .i64 v3]]) ∧ Below w.heap.size w w'
/-- What the first ask told. -/
def ToldD (G : Option Addr → Nat → Nat → Option Addr → Nat → Nat → World → Prop) (T H : Int) (al : Bool) (rm rt rs : Int) (w : World) (e : Ending) (w' : World) : Prop :=
  ∃ (da : Option Addr) (dn dc : Nat) (ea : Option Addr) (en ec : Nat), e = .returned (.tuple #[.agg #[.int .i64 T, .int .i64 H, .slice da dn dc, .slice ea en ec], .agg #[.bool al, .int .i64 rm, .int .i64 rt, .int .i64 rs]]) ∧ G da dn dc ea en ec w' ∧ Below w.heap.size w w'
structure At0 (w0 : World) (k l v b a n t m : Int) (x y : Value) (w : World) : Prop where
  p : Has w w0.heap.size 23 [.int .i64 k, .int .i64 l, .int .i64 v, .int .i64 b]
  c : Has w (w0.heap.size + 1) 27 [.int .i64 a, .int .i64 n, x, y]
  n : Has w (w0.heap.size + 1 + 1) 28 [.int .i64 t, .int .i64 m]
  be : Below w0.heap.size w0 w
theorem At0.made (w : World) (k l v b a n t m : Int) (x y : Value) : At0 w k l v b a n t m x y (((w.alloc (.cells #[.int .i64 k, .int .i64 l, .int .i64 v, .int .i64 b] 23)).alloc (.cells #[.int .i64 a, .int .i64 n, x, y] 27)).alloc (.cells #[.int .i64 t, .int .i64 m] 28)) := by
  refine ⟨((Has.made w 23 [.int .i64 k, .int .i64 l, .int .i64 v, .int .i64 b]).alloc _).alloc _, Has.alloc ?_ _, ?_, (((Below.refl _ _).alloc (Nat.le_refl _) _).alloc (by simp) _).alloc (by simp; omega) _⟩
  · have := Has.made (w.alloc (.cells #[.int .i64 k, .int .i64 l, .int .i64 v, .int .i64 b] 23)) 27 [.int .i64 a, .int .i64 n, x, y]
    simpa using this
  · have := Has.made ((w.alloc (.cells #[.int .i64 k, .int .i64 l, .int .i64 v, .int .i64 b] 23)).alloc (.cells #[.int .i64 a, .int .i64 n, x, y] 27)) 28 [.int .i64 t, .int .i64 m]
    simpa using this
theorem below_N {B : Nat} {w w' : World} (h : Below B w w') (m : Nat) : Below B w (w'.drewN m) := ⟨h.os, h.tape, h.output, h.size, h.block⟩
section
variable {w0 w w' : World} {k l v b a n t m : Int} {x y : Value}
theorem At0.drewN (h : At0 w0 k l v b a n t m x y w) (q : Nat) : At0 w0 k l v b a n t m x y (w.drewN q) := ⟨h.p, h.c, h.n, below_N h.be q⟩
theorem At0.step (h : At0 w0 k l v b a n t m x y w) (hb : Below w.heap.size w w') : At0 w0 k l v b a n t m x y w' :=
  ⟨h.p.step hb, h.c.step hb, h.n.step hb, h.be.trans (hb.mono h.be.size)⟩
theorem At0.cells (h : At0 w0 k l v b a n t m x y w) :
    (w.cell? ⟨w0.heap.size, 0, none⟩ = some (.int .i64 k) ∧ w.cell? ⟨w0.heap.size, 1, none⟩ = some (.int .i64 l) ∧ w.cell? ⟨w0.heap.size, 2, none⟩ = some (.int .i64 v) ∧ w.cell? ⟨w0.heap.size, 3, none⟩ = some (.int .i64 b)) ∧
    (w.cell? ⟨w0.heap.size + 1, 0, none⟩ = some (.int .i64 a) ∧ w.cell? ⟨w0.heap.size + 1, 1, none⟩ = some (.int .i64 n) ∧ w.cell? ⟨w0.heap.size + 1, 2, none⟩ = some x ∧ w.cell? ⟨w0.heap.size + 1, 3, none⟩ = some y) ∧
    (w.cell? ⟨w0.heap.size + 1 + 1, 0, none⟩ = some (.int .i64 t) ∧ w.cell? ⟨w0.heap.size + 1 + 1, 1, none⟩ = some (.int .i64 m)) :=
  ⟨h.p.four, h.c.four, h.n.cell 0, h.n.cell 1⟩
end
/-- The policy, the cell, and what the first ask told. -/
structure At (G : World → Prop) (w0 : World) (k l v b a n : Int) (sa ha : Option Addr) (sn sc hn hc : Nat) (T H : Int) (al : Bool) (rm rt rs : Int) (da : Option Addr) (dn dc : Nat) (ea : Option Addr) (en ec : Nat) (g : Nat) (w : World) : Prop where
  p : Has w w0.heap.size 23 [.int .i64 k, .int .i64 l, .int .i64 v, .int .i64 b]
  c : Has w (w0.heap.size + 1) 27 [.int .i64 a, .int .i64 n, .slice sa sn sc, .slice ha hn hc]
  d : Has w g 27 [.int .i64 T, .int .i64 H, .slice da dn dc, .slice ea en ec]
  u : Has w (g + 1) 32 [.bool al, .int .i64 rm, .int .i64 rt, .int .i64 rs]
  gd : G w
  be : Below w0.heap.size w0 w
section
variable {G : World → Prop} {w0 w w' : World} {k l v b a n : Int} {sa ha : Option Addr} {sn sc hn hc : Nat} {T H : Int} {al : Bool} {rm rt rs : Int} {da : Option Addr} {dn dc : Nat} {ea : Option Addr} {en ec : Nat} {g : Nat}
theorem At.step (h : At G w0 k l v b a n sa ha sn sc hn hc T H al rm rt rs da dn dc ea en ec g w) (hG : Stays G) (hb : Below w.heap.size w w') : At G w0 k l v b a n sa ha sn sc hn hc T H al rm rt rs da dn dc ea en ec g w' :=
  ⟨h.p.step hb, h.c.step hb, h.d.step hb, h.u.step hb, hG _ _ h.gd hb, h.be.trans (hb.mono h.be.size)⟩
theorem At.drew (h : At G w0 k l v b a n sa ha sn sc hn hc T H al rm rt rs da dn dc ea en ec g w) (hG : Stays G) : At G w0 k l v b a n sa ha sn sc hn hc T H al rm rt rs da dn dc ea en ec g w.drew := h.step hG (Below.refl _ _).drew
theorem At.two (h : At G w0 k l v b a n sa ha sn sc hn hc T H al rm rt rs da dn dc ea en ec g w) (hG : Stays G) (o o' : Obj) : At G w0 k l v b a n sa ha sn sc hn hc T H al rm rt rs da dn dc ea en ec g ((w.alloc o).alloc o') :=
  (h.step hG ((Below.refl _ _).alloc (Nat.le_refl _) o)).step hG ((Below.refl _ _).alloc (Nat.le_refl _) o')
theorem At.cells (h : At G w0 k l v b a n sa ha sn sc hn hc T H al rm rt rs da dn dc ea en ec g w) : (w.cell? ⟨w0.heap.size, 0, none⟩ = some (.int .i64 k) ∧ w.cell? ⟨w0.heap.size, 1, none⟩ = some (.int .i64 l) ∧ w.cell? ⟨w0.heap.size, 2, none⟩ = some (.int .i64 v) ∧ w.cell? ⟨w0.heap.size, 3, none⟩ = some (.int .i64 b)) ∧ (w.cell? ⟨w0.heap.size + 1, 0, none⟩ = some (.int .i64 a) ∧ w.cell? ⟨w0.heap.size + 1, 1, none⟩ = some (.int .i64 n) ∧ w.cell? ⟨w0.heap.size + 1, 2, none⟩ = some (.slice sa sn sc) ∧ w.cell? ⟨w0.heap.size + 1, 3, none⟩ = some (.slice ha hn hc)) ∧ (w.cell? ⟨g, 0, none⟩ = some (.int .i64 T) ∧ w.cell? ⟨g, 1, none⟩ = some (.int .i64 H) ∧ w.cell? ⟨g, 2, none⟩ = some (.slice da dn dc) ∧ w.cell? ⟨g, 3, none⟩ = some (.slice ea en ec)) ∧ (w.cell? ⟨g + 1, 0, none⟩ = some (.bool al) ∧ w.cell? ⟨g + 1, 1, none⟩ = some (.int .i64 rm) ∧ w.cell? ⟨g + 1, 2, none⟩ = some (.int .i64 rt) ∧ w.cell? ⟨g + 1, 3, none⟩ = some (.int .i64 rs)) := ⟨h.p.four, h.c.four, h.d.four, h.u.four⟩
end

set_option maxRecDepth 100000 in
set_option maxHeartbeats 4000000 in
theorem n0 (k l v b a n t m : Int) (sa ha : Option Addr) (sn sc hn hc : Nat) (W : World) (h : ¬ (sn ≤ 40 ∧ hn ≤ 40)) (q1 : sn ≤ maxLen) (q2 : hn ≤ maxLen) : Calls Try.prog 4 #[.agg #[.int .i64 k, .int .i64 l, .int .i64 v, .int .i64 b], .agg #[.int .i64 a, .int .i64 n, .slice sa sn sc, .slice ha hn hc], .agg #[.int .i64 t, .int .i64 m]] W fun e w' => e = .returned (.bool true) ∧ Below W.heap.size W w' := by
  have FW := Lib.hid (fun u => Few_no a n sa ha sn sc hn hc u h q1 q2)
  clear h q1 q2
  have A0 := Lib.hid (At0.made W k l v b a n t m (.slice sa sn sc) (.slice ha hn hc))
  go_enter Try.func4, Try.ntmps4
  go_wp2_with fail
  go_quiet (fail)
  have hp := A0.out.drewN nq
  generalize World.drewN (((W.alloc (.cells #[.int .i64 k, .int .i64 l, .int .i64 v, .int .i64 b] 23)).alloc (.cells #[.int .i64 a, .int .i64 n, .slice sa sn sc, .slice ha hn hc] 27)).alloc (.cells #[.int .i64 t, .int .i64 m] 28)) nq = w0 at hp ⊢
  have A1 := Lib.hid hp
  clear hp A0
  obtain ⟨⟨j0, j1, j2, j3⟩, ⟨j4, j5, j6, j7⟩, j8, j9⟩ := A1.out.cells
  go_wp2_with fail
  refine (FW.out _).mono ?_; rintro e w1 ⟨rfl, hb⟩
  clear j0 j1 j2 j3 j4 j5 j6 j7 j8 j9
  have A2 := Lib.hid (A1.out.step hb)
  clear hb A1
  obtain ⟨⟨j0, j1, j2, j3⟩, ⟨j4, j5, j6, j7⟩, j8, j9⟩ := A2.out.cells
  go_wp2_with fail
  refine (live_any _).mono ?_; rintro e wl ⟨rfl, hb⟩
  have AL := Lib.hid (A2.out.step hb)
  clear hb
  go_wp2_with fail
  go_ret
  exact ⟨rfl, AL.out.be⟩

set_option maxRecDepth 100000 in
set_option maxHeartbeats 4000000 in
theorem n1 (k l v b a n t m : Int) (sa ha : Option Addr) (sn sc hn hc : Nat) (W : World) (f1 : sn ≤ 40) (f2 : hn ≤ 40) (MK : ∀ u, Below W.heap.size W u → Calls Try.prog 14 #[.agg #[.int .i64 k, .int .i64 l, .int .i64 v, .int .i64 b], .agg #[.int .i64 a, .int .i64 n, .slice sa sn sc, .slice ha hn hc]] u fun e w' => e = .returned (.bool false) ∧ Below u.heap.size u w') : Calls Try.prog 4 #[.agg #[.int .i64 k, .int .i64 l, .int .i64 v, .int .i64 b], .agg #[.int .i64 a, .int .i64 n, .slice sa sn sc, .slice ha hn hc], .agg #[.int .i64 t, .int .i64 m]] W fun e w' => e = .returned (.bool true) ∧ Below W.heap.size W w' := by
  have FW := Lib.hid (fun u => Few_yes a n sa ha sn sc hn hc u f1 f2)
  have MQ := Lib.hid MK
  clear f1 f2 MK
  have A0 := Lib.hid (At0.made W k l v b a n t m (.slice sa sn sc) (.slice ha hn hc))
  go_enter Try.func4, Try.ntmps4
  go_wp2_with fail
  go_quiet (fail)
  have hp := A0.out.drewN nq
  generalize World.drewN (((W.alloc (.cells #[.int .i64 k, .int .i64 l, .int .i64 v, .int .i64 b] 23)).alloc (.cells #[.int .i64 a, .int .i64 n, .slice sa sn sc, .slice ha hn hc] 27)).alloc (.cells #[.int .i64 t, .int .i64 m] 28)) nq = w0 at hp ⊢
  have A1 := Lib.hid hp
  clear hp A0
  obtain ⟨⟨j0, j1, j2, j3⟩, ⟨j4, j5, j6, j7⟩, j8, j9⟩ := A1.out.cells
  go_wp2_with fail
  refine (FW.out _).mono ?_; rintro e w1 ⟨rfl, hb⟩
  clear j0 j1 j2 j3 j4 j5 j6 j7 j8 j9
  have A2 := Lib.hid (A1.out.step hb)
  clear hb A1
  obtain ⟨⟨j0, j1, j2, j3⟩, ⟨j4, j5, j6, j7⟩, j8, j9⟩ := A2.out.cells
  go_wp2_with fail
  refine (MQ.out _ A2.out.be).mono ?_; rintro e w2 ⟨rfl, hb⟩
  clear j0 j1 j2 j3 j4 j5 j6 j7 j8 j9
  have A3 := Lib.hid (A2.out.step hb)
  clear hb A2
  obtain ⟨⟨j0, j1, j2, j3⟩, ⟨j4, j5, j6, j7⟩, j8, j9⟩ := A3.out.cells
  go_wp2_with fail
  refine (live_any _).mono ?_; rintro e wl ⟨rfl, hb⟩
  have AL := Lib.hid (A3.out.step hb)
  clear hb
  go_wp2_with fail
  go_ret
  exact ⟨rfl, AL.out.be⟩

set_option maxRecDepth 100000 in
set_option maxHeartbeats 4000000 in
theorem n2 (k l v b a n t m : Int) (sa ha : Option Addr) (sn sc hn hc : Nat) (W : World) (f1 : sn ≤ 40) (f2 : hn ≤ 40) (MK : ∀ u, Below W.heap.size W u → Calls Try.prog 14 #[.agg #[.int .i64 k, .int .i64 l, .int .i64 v, .int .i64 b], .agg #[.int .i64 a, .int .i64 n, .slice sa sn sc, .slice ha hn hc]] u fun e w' => e = .returned (.bool true) ∧ Below u.heap.size u w') (ht : t < 0 ∨ (0 ≤ t ∧ 549755813888 < t) ∨ (0 ≤ t ∧ t ≤ 549755813888 ∧ 549755813888 < a)) : Calls Try.prog 4 #[.agg #[.int .i64 k, .int .i64 l, .int .i64 v, .int .i64 b], .agg #[.int .i64 a, .int .i64 n, .slice sa sn sc, .slice ha hn hc], .agg #[.int .i64 t, .int .i64 m]] W fun e w' => e = .returned (.bool true) ∧ Below W.heap.size W w' := by
  have FW := Lib.hid (fun u => Few_yes a n sa ha sn sc hn hc u f1 f2)
  have MQ := Lib.hid MK
  clear f1 f2 MK
  rcases ht with ht | ⟨ht, ht1⟩ | ⟨ht, ht1, ht2⟩
  all_goals
    have A0 := Lib.hid (At0.made W k l v b a n t m (.slice sa sn sc) (.slice ha hn hc))
    go_enter Try.func4, Try.ntmps4
    go_wp2_with fail
    go_quiet (fail)
    have hp := A0.out.drewN nq
    generalize World.drewN (((W.alloc (.cells #[.int .i64 k, .int .i64 l, .int .i64 v, .int .i64 b] 23)).alloc (.cells #[.int .i64 a, .int .i64 n, .slice sa sn sc, .slice ha hn hc] 27)).alloc (.cells #[.int .i64 t, .int .i64 m] 28)) nq = w0 at hp ⊢
    have A1 := Lib.hid hp
    clear hp A0
    obtain ⟨⟨j0, j1, j2, j3⟩, ⟨j4, j5, j6, j7⟩, j8, j9⟩ := A1.out.cells
    go_wp2_with fail
    refine (FW.out _).mono ?_; rintro e w1 ⟨rfl, hb⟩
    clear j0 j1 j2 j3 j4 j5 j6 j7 j8 j9
    have A2 := Lib.hid (A1.out.step hb)
    clear hb A1
    obtain ⟨⟨j0, j1, j2, j3⟩, ⟨j4, j5, j6, j7⟩, j8, j9⟩ := A2.out.cells
    go_wp2_with fail
    refine (MQ.out _ A2.out.be).mono ?_; rintro e w2 ⟨rfl, hb⟩
    clear j0 j1 j2 j3 j4 j5 j6 j7 j8 j9
    have A3 := Lib.hid (A2.out.step hb)
    clear hb A2
    obtain ⟨⟨j0, j1, j2, j3⟩, ⟨j4, j5, j6, j7⟩, j8, j9⟩ := A3.out.cells
    go_wp2_with fail
    refine (live_any _).mono ?_; rintro e wl ⟨rfl, hb⟩
    have AL := Lib.hid (A3.out.step hb)
    clear hb
    go_wp2_with fail
    go_ret
    exact ⟨rfl, AL.out.be⟩

set_option maxRecDepth 100000 in
set_option maxHeartbeats 4000000 in
theorem n3 (k l v b a n t m : Int) (sa ha : Option Addr) (sn sc hn hc : Nat) (W : World) (f1 : sn ≤ 40) (f2 : hn ≤ 40) (MK : ∀ u, Below W.heap.size W u → Calls Try.prog 14 #[.agg #[.int .i64 k, .int .i64 l, .int .i64 v, .int .i64 b], .agg #[.int .i64 a, .int .i64 n, .slice sa sn sc, .slice ha hn hc]] u fun e w' => e = .returned (.bool true) ∧ Below u.heap.size u w') (t1 : 0 ≤ t) (t2 : t ≤ 549755813888) (a2 : a ≤ 549755813888) (hm : ¬ (1 ≤ m ∧ m ≤ 1048576)) : Calls Try.prog 4 #[.agg #[.int .i64 k, .int .i64 l, .int .i64 v, .int .i64 b], .agg #[.int .i64 a, .int .i64 n, .slice sa sn sc, .slice ha hn hc], .agg #[.int .i64 t, .int .i64 m]] W fun e w' => e = .returned (.bool true) ∧ Below W.heap.size W w' := by
  have FW := Lib.hid (fun u => Few_yes a n sa ha sn sc hn hc u f1 f2)
  have MQ := Lib.hid MK
  have WK := Lib.hid (fun u => rWeighs_no m u hm)
  clear f1 f2 MK hm
  have A0 := Lib.hid (At0.made W k l v b a n t m (.slice sa sn sc) (.slice ha hn hc))
  go_enter Try.func4, Try.ntmps4
  go_wp2_with fail
  go_quiet (fail)
  have hp := A0.out.drewN nq
  generalize World.drewN (((W.alloc (.cells #[.int .i64 k, .int .i64 l, .int .i64 v, .int .i64 b] 23)).alloc (.cells #[.int .i64 a, .int .i64 n, .slice sa sn sc, .slice ha hn hc] 27)).alloc (.cells #[.int .i64 t, .int .i64 m] 28)) nq = w0 at hp ⊢
  have A1 := Lib.hid hp
  clear hp A0
  obtain ⟨⟨j0, j1, j2, j3⟩, ⟨j4, j5, j6, j7⟩, j8, j9⟩ := A1.out.cells
  go_wp2_with fail
  refine (FW.out _).mono ?_; rintro e w1 ⟨rfl, hb⟩
  clear j0 j1 j2 j3 j4 j5 j6 j7 j8 j9
  have A2 := Lib.hid (A1.out.step hb)
  clear hb A1
  obtain ⟨⟨j0, j1, j2, j3⟩, ⟨j4, j5, j6, j7⟩, j8, j9⟩ := A2.out.cells
  go_wp2_with fail
  refine (MQ.out _ A2.out.be).mono ?_; rintro e w2 ⟨rfl, hb⟩
  clear j0 j1 j2 j3 j4 j5 j6 j7 j8 j9
  have A3 := Lib.hid (A2.out.step hb)
  clear hb A2
  obtain ⟨⟨j0, j1, j2, j3⟩, ⟨j4, j5, j6, j7⟩, j8, j9⟩ := A3.out.cells
  go_wp2_with fail
  refine (WK.out _).mono ?_; rintro e w' ⟨rfl, rfl⟩
  clear j0 j1 j2 j3 j4 j5 j6 j7 j8 j9
  obtain ⟨⟨j0, j1, j2, j3⟩, ⟨j4, j5, j6, j7⟩, j8, j9⟩ := A3.out.cells
  go_wp2_with fail
  refine (live_any _).mono ?_; rintro e wl ⟨rfl, hb⟩
  have AL := Lib.hid (A3.out.step hb)
  clear hb
  go_wp2_with fail
  go_ret
  exact ⟨rfl, AL.out.be⟩

set_option maxRecDepth 100000 in
set_option maxHeartbeats 4000000 in
theorem main (G : Option Addr → Nat → Nat → Option Addr → Nat → Nat → World → Prop) (k l v b a n t m : Int) (sa ha : Option Addr) (sn sc hn hc : Nat) (W : World) (T H : Int) (al : Bool) (rm rt rs : Int) (f1 : sn ≤ 40) (f2 : hn ≤ 40) (MK : ∀ u, Below W.heap.size W u → Calls Try.prog 14 #[.agg #[.int .i64 k, .int .i64 l, .int .i64 v, .int .i64 b], .agg #[.int .i64 a, .int .i64 n, .slice sa sn sc, .slice ha hn hc]] u fun e w' => e = .returned (.bool true) ∧ Below u.heap.size u w') (t1 : 0 ≤ t) (t2 : t ≤ 549755813888) (a2 : a ≤ 549755813888) (m1 : 1 ≤ m) (m2 : m ≤ 1048576)
    (hG : ∀ da dn dc ea en ec, Stays (G da dn dc ea en ec))
    (K0 : ∀ u, Below W.heap.size W u → Calls Try.prog 10 #[.agg #[.int .i64 k, .int .i64 l, .int .i64 v, .int .i64 b], .agg #[.int .i64 a, .int .i64 n, .slice sa sn sc, .slice ha hn hc], .int .i64 t, .int .i64 m] u (ToldD G T H al rm rt rs u))
    (MD : ∀ da dn dc ea en ec u, G da dn dc ea en ec u → Calls Try.prog 13 #[.agg #[.int .i64 k, .int .i64 l, .int .i64 v, .int .i64 b], .agg #[.int .i64 T, .int .i64 H, .slice da dn dc, .slice ea en ec]] u fun e w' => e = .returned (.bool true) ∧ Below u.heap.size u w')
    (hT : (t < a ∧ T = a) ∨ (a ≤ t ∧ T = t)) (T1 : 0 ≤ T) (T2 : T ≤ 549755813888)
    (MO : 0 < rm → ∀ da dn dc ea en ec u, G da dn dc ea en ec u → Calls Try.prog 10 #[.agg #[.int .i64 k, .int .i64 l, .int .i64 v, .int .i64 b], .agg #[.int .i64 T, .int .i64 H, .slice da dn dc, .slice ea en ec], .int .i64 T, .int .i64 rm] u (Told true u)) (rm0 : 0 ≤ rm) (rm1 : rm ≤ l) (l2 : l ≤ 1048576)
    (rs0 : 0 ≤ rs) (rs1 : rs ≤ 4194304)
    (Z1 : ∀ da dn dc ea en ec u, G da dn dc ea en ec u → Calls Try.prog 15 #[.agg #[.int .i64 k, .int .i64 l, .int .i64 v, .int .i64 b], .agg #[.int .i64 T, .int .i64 H, .slice da dn dc, .slice ea en ec], .int .i64 (T + rs)] u fun e w' => e = .returned (.int .i64 0) ∧ Below u.heap.size u w')
    (z2 : Int) (z2p : 0 < z2) (Z2 : 0 < rs → ∀ da dn dc ea en ec u, G da dn dc ea en ec u → Calls Try.prog 15 #[.agg #[.int .i64 k, .int .i64 l, .int .i64 v, .int .i64 b], .agg #[.int .i64 T, .int .i64 H, .slice da dn dc, .slice ea en ec], .int .i64 (T + rs - 1)] u fun e w' => e = .returned (.int .i64 z2) ∧ Below u.heap.size u w')
    (EN : ∀ da dn dc ea en ec u, G da dn dc ea en ec u → Calls Try.prog 17 #[.agg #[.int .i64 k, .int .i64 l, .int .i64 v, .int .i64 b], .agg #[.int .i64 T, .int .i64 H, .slice da dn dc, .slice ea en ec]] u fun e w' => e = .returned (.int .i64 (T + rs)) ∧ Below u.heap.size u w')
    (AL : al = true → rt = 0) (NV : al = false → l < m → rt = 2199023255552)
    (RT : al = false → m ≤ l → 0 < rt ∧ rt ≤ 4194304) (TH : al = false → m ≤ l → ∀ da dn dc ea en ec u, G da dn dc ea en ec u → Calls Try.prog 10 #[.agg #[.int .i64 k, .int .i64 l, .int .i64 v, .int .i64 b], .agg #[.int .i64 T, .int .i64 H, .slice da dn dc, .slice ea en ec], .int .i64 (T + rt), .int .i64 m] u (Told true u)) (AH : al = false → m ≤ l → ∀ da dn dc ea en ec u, G da dn dc ea en ec u → Calls Try.prog 10 #[.agg #[.int .i64 k, .int .i64 l, .int .i64 v, .int .i64 b], .agg #[.int .i64 T, .int .i64 H, .slice da dn dc, .slice ea en ec], .int .i64 (T + rt - 1), .int .i64 m] u (Told false u))
    (TT : Int) (TA : ∀ da dn dc ea en ec u, G da dn dc ea en ec u → Calls Try.prog 15 #[.agg #[.int .i64 k, .int .i64 l, .int .i64 v, .int .i64 b], .agg #[.int .i64 T, .int .i64 H, .slice da dn dc, .slice ea en ec], .int .i64 T] u fun e w' => e = .returned (.int .i64 TT) ∧ Below u.heap.size u w') (hTT : l - TT = rm) (TT0 : 0 ≤ TT) (TT1 : TT ≤ l) : Calls Try.prog 4 #[.agg #[.int .i64 k, .int .i64 l, .int .i64 v, .int .i64 b], .agg #[.int .i64 a, .int .i64 n, .slice sa sn sc, .slice ha hn hc], .agg #[.int .i64 t, .int .i64 m]] W fun e w' => e = .returned (.bool true) ∧ Below W.heap.size W w' := by
  have FW := Lib.hid (fun u => Few_yes a n sa ha sn sc hn hc u f1 f2)
  have WK := Lib.hid (fun u => rWeighs_yes m u m1 m2)
  have MK' := Lib.hid MK
  have K0' := Lib.hid K0
  have MD' := Lib.hid MD
  have MO' := Lib.hid MO
  have Z1' := Lib.hid Z1
  have Z2' := Lib.hid Z2
  have EN' := Lib.hid EN
  have AL' := Lib.hid AL
  have NV' := Lib.hid NV
  have RT' := Lib.hid RT
  have TH' := Lib.hid TH
  have AH' := Lib.hid AH
  have hG' := Lib.hid hG
  have TA' := Lib.hid TA
  clear MK K0 MD MO Z1 Z2 EN AL NV RT TH AH hG TA
  have e1 : IntKind.i64.wrap (T + rs) = T + rs := wrap_i (by omega) (by omega)
  have e2 : IntKind.i64.wrap (T + rs - 1) = T + rs - 1 := wrap_i (by omega) (by omega)
  have e3 : IntKind.i64.wrap (l - TT) = rm := by rw [← hTT]; exact wrap_i (by omega) (by omega)
  clear hTT
  have dr : decide (rm < 0) = false := by simp; omega
  clear f1 f2
  have A0 := Lib.hid (At0.made W k l v b a n t m (.slice sa sn sc) (.slice ha hn hc))
  go_enter Try.func4, Try.ntmps4
  go_wp2_with fail
  go_quiet (fail)
  have hp := A0.out.drewN nq
  generalize World.drewN (((W.alloc (.cells #[.int .i64 k, .int .i64 l, .int .i64 v, .int .i64 b] 23)).alloc (.cells #[.int .i64 a, .int .i64 n, .slice sa sn sc, .slice ha hn hc] 27)).alloc (.cells #[.int .i64 t, .int .i64 m] 28)) nq = w0 at hp ⊢
  have A1 := Lib.hid hp
  clear hp A0
  obtain ⟨⟨j0, j1, j2, j3⟩, ⟨j4, j5, j6, j7⟩, j8, j9⟩ := A1.out.cells
  go_wp2_with fail
  refine (FW.out _).mono ?_; rintro e w1 ⟨rfl, hb⟩
  clear j0 j1 j2 j3 j4 j5 j6 j7 j8 j9
  have A2 := Lib.hid (A1.out.step hb)
  clear hb A1
  obtain ⟨⟨j0, j1, j2, j3⟩, ⟨j4, j5, j6, j7⟩, j8, j9⟩ := A2.out.cells
  go_wp2_with fail
  refine (MK'.out _ A2.out.be).mono ?_; rintro e w2 ⟨rfl, hb⟩
  clear j0 j1 j2 j3 j4 j5 j6 j7 j8 j9
  have A3 := Lib.hid (A2.out.step hb)
  clear hb A2
  obtain ⟨⟨j0, j1, j2, j3⟩, ⟨j4, j5, j6, j7⟩, j8, j9⟩ := A3.out.cells
  go_wp2_with fail
  refine (WK.out _).mono ?_; rintro e w' ⟨rfl, rfl⟩
  go_wp2_with fail
  refine (K0'.out _ A3.out.be).mono ?_; rintro e w4 ⟨da, dn, dc, ea, en, ec, rfl, hg, hb⟩
  clear j0 j1 j2 j3 j4 j5 j6 j7 j8 j9
  have HG := Lib.hid (hG'.out da dn dc ea en ec)
  have hz : At (G da dn dc ea en ec) W k l v b a n sa ha sn sc hn hc T H al rm rt rs da dn dc ea en ec w4.heap.size ((w4.alloc (.cells #[.int .i64 T, .int .i64 H, .slice da dn dc, .slice ea en ec] 27)).alloc (.cells #[.bool al, .int .i64 rm, .int .i64 rt, .int .i64 rs] 32)) := by
    have q := A3.out.step hb
    have b2 : Below w4.heap.size w4 ((w4.alloc (.cells #[.int .i64 T, .int .i64 H, .slice da dn dc, .slice ea en ec] 27)).alloc (.cells #[.bool al, .int .i64 rm, .int .i64 rt, .int .i64 rs] 32)) := ((Below.refl _ _).alloc (Nat.le_refl _) _).alloc (by simp) _
    exact ⟨q.p.step b2, q.c.step b2, made1 w4 27 [.int .i64 T, .int .i64 H, .slice da dn dc, .slice ea en ec] (.cells #[.bool al, .int .i64 rm, .int .i64 rt, .int .i64 rs] 32), made2 w4 32 27 [.bool al, .int .i64 rm, .int .i64 rt, .int .i64 rs] (.cells #[.int .i64 T, .int .i64 H, .slice da dn dc, .slice ea en ec] 27), HG.out _ _ hg b2, q.be.trans (b2.mono q.be.size)⟩
  clear hb hg A3
  obtain ⟨⟨j0, j1, j2, j3⟩, ⟨j4, j5, j6, j7⟩, ⟨d0, d1, d2, d3⟩, u0, u1, u2, u3⟩ := hz.cells
  go_upto_region 5 with (fail)
  clear j0 j1 j2 j3 j4 j5 j6 j7 d0 d1 d2 d3 u0 u1 u2 u3
  generalize (w4.alloc (.cells #[.int .i64 T, .int .i64 H, .slice da dn dc, .slice ea en ec] 27)).alloc (.cells #[.bool al, .int .i64 rm, .int .i64 rt, .int .i64 rs] 32) = wz at hz ⊢
  generalize w4.heap.size = g at hz ⊢
  have B1 := Lib.hid hz
  clear hz
  go_cut [87] (fun s wx => s = .bool false ∧ At (G da dn dc ea en ec) W k l v b a n sa ha sn sc hn hc T H al rm rt rs da dn dc ea en ec g wx)
  case first =>
    rcases hT with ⟨q1, q2⟩ | ⟨q1, q2⟩
    · have dT : (T != a) = false := by simp [q2]
      have q3 : decide (t < a) = true := by simp; omega
      clear q2
      go_region_held3 (fun w' => (w'.cell? ⟨W.heap.size, 0, none⟩ = some (.int .i64 k) ∧ w'.cell? ⟨W.heap.size, 1, none⟩ = some (.int .i64 l) ∧ w'.cell? ⟨W.heap.size, 2, none⟩ = some (.int .i64 v) ∧ w'.cell? ⟨W.heap.size, 3, none⟩ = some (.int .i64 b)) ∧ (w'.cell? ⟨W.heap.size + 1, 0, none⟩ = some (.int .i64 a) ∧ w'.cell? ⟨W.heap.size + 1, 1, none⟩ = some (.int .i64 n) ∧ w'.cell? ⟨W.heap.size + 1, 2, none⟩ = some (.slice sa sn sc) ∧ w'.cell? ⟨W.heap.size + 1, 3, none⟩ = some (.slice ha hn hc)) ∧ (w'.cell? ⟨g, 0, none⟩ = some (.int .i64 T) ∧ w'.cell? ⟨g, 1, none⟩ = some (.int .i64 H) ∧ w'.cell? ⟨g, 2, none⟩ = some (.slice da dn dc) ∧ w'.cell? ⟨g, 3, none⟩ = some (.slice ea en ec)) ∧ (w'.cell? ⟨g + 1, 0, none⟩ = some (.bool al) ∧ w'.cell? ⟨g + 1, 1, none⟩ = some (.int .i64 rm) ∧ w'.cell? ⟨g + 1, 2, none⟩ = some (.int .i64 rt) ∧ w'.cell? ⟨g + 1, 3, none⟩ = some (.int .i64 rs))) (first | (with_reducible exact B1.out.cells) | (with_reducible exact (B1.out.drew HG.out).cells) | (with_reducible exact B11.out.cells) | (with_reducible exact B12.out.cells) | go_keep) (first | (go_at_call 13; (with_reducible refine (MD'.out _ _ _ _ _ _ _ (B1.out.drew HG.out).gd).mono ?_); rintro e wa ⟨rfl, hb⟩; have B11 := Lib.hid ((B1.out.drew HG.out).step HG.out hb); clear hb) | (go_at_call 15; (with_reducible refine (TA'.out _ _ _ _ _ _ _ B11.out.gd).mono ?_); rintro e wb ⟨rfl, hb⟩; have B12 := Lib.hid ((B11.out).step HG.out hb); clear hb))
      all_goals (go_wp2_with fail; go_meet; exact ⟨rfl, B12.out⟩)
    · have dT : (T != t) = false := by simp [q2]
      have q3 : decide (t < a) = false := by simp; omega
      have q4 : ¬ t < a := by omega
      have q5 : (t < a) = False := by simp; omega
      clear q2
      go_region_held3 (fun w' => (w'.cell? ⟨W.heap.size, 0, none⟩ = some (.int .i64 k) ∧ w'.cell? ⟨W.heap.size, 1, none⟩ = some (.int .i64 l) ∧ w'.cell? ⟨W.heap.size, 2, none⟩ = some (.int .i64 v) ∧ w'.cell? ⟨W.heap.size, 3, none⟩ = some (.int .i64 b)) ∧ (w'.cell? ⟨W.heap.size + 1, 0, none⟩ = some (.int .i64 a) ∧ w'.cell? ⟨W.heap.size + 1, 1, none⟩ = some (.int .i64 n) ∧ w'.cell? ⟨W.heap.size + 1, 2, none⟩ = some (.slice sa sn sc) ∧ w'.cell? ⟨W.heap.size + 1, 3, none⟩ = some (.slice ha hn hc)) ∧ (w'.cell? ⟨g, 0, none⟩ = some (.int .i64 T) ∧ w'.cell? ⟨g, 1, none⟩ = some (.int .i64 H) ∧ w'.cell? ⟨g, 2, none⟩ = some (.slice da dn dc) ∧ w'.cell? ⟨g, 3, none⟩ = some (.slice ea en ec)) ∧ (w'.cell? ⟨g + 1, 0, none⟩ = some (.bool al) ∧ w'.cell? ⟨g + 1, 1, none⟩ = some (.int .i64 rm) ∧ w'.cell? ⟨g + 1, 2, none⟩ = some (.int .i64 rt) ∧ w'.cell? ⟨g + 1, 3, none⟩ = some (.int .i64 rs))) (first | (with_reducible exact B1.out.cells) | (with_reducible exact (B1.out.drew HG.out).cells) | (with_reducible exact B11.out.cells) | (with_reducible exact B12.out.cells) | go_keep) (first | (go_at_call 13; (with_reducible refine (MD'.out _ _ _ _ _ _ _ (B1.out.drew HG.out).gd).mono ?_); rintro e wa ⟨rfl, hb⟩; have B11 := Lib.hid ((B1.out.drew HG.out).step HG.out hb); clear hb) | (go_at_call 15; (with_reducible refine (TA'.out _ _ _ _ _ _ _ B11.out.gd).mono ?_); rintro e wb ⟨rfl, hb⟩; have B12 := Lib.hid ((B11.out).step HG.out hb); clear hb))
      all_goals (go_wp2_with fail; go_meet; exact ⟨rfl, B12.out⟩)
  case rest =>
  obtain ⟨rfl, hz⟩ := hcut
  clear hT e3 B1
  have B2 := Lib.hid hz
  clear hz
  obtain ⟨⟨j0, j1, j2, j3⟩, ⟨j4, j5, j6, j7⟩, ⟨d0, d1, d2, d3⟩, u0, u1, u2, u3⟩ := B2.out.cells
  go_upto_if 90 with (fail)
  clear j0 j1 j2 j3 j4 j5 j6 j7 d0 d1 d2 d3 u0 u1 u2 u3
  go_cut [] (fun wx => At (G da dn dc ea en ec) W k l v b a n sa ha sn sc hn hc T H al rm rt rs da dn dc ea en ec g wx)
  case first =>
    by_cases hr : 0 < rm
    · have CM := Lib.hid (MO'.out hr)
      obtain ⟨⟨j0, j1, j2, j3⟩, ⟨j4, j5, j6, j7⟩, ⟨d0, d1, d2, d3⟩, u0, u1, u2, u3⟩ := B2.out.cells
      go_wp2_with fail
      refine (CM.out _ _ _ _ _ _ _ B2.out.gd).mono ?_; rintro e y2 ⟨x0, x1, xa, ya, xn, xc, yn, yc, v1, v2, v3, rfl, hb⟩
      clear j0 j1 j2 j3 j4 j5 j6 j7 d0 d1 d2 d3 u0 u1 u2 u3
      have hz := (B2.out.step HG.out hb).two HG.out (.cells #[.int .i64 x0, .int .i64 x1, .slice xa xn xc, .slice ya yn yc] 27) (.cells #[.bool true, .int .i64 v1, .int .i64 v2, .int .i64 v3] 32)
      have HZ := Lib.hid hz
      clear hb hz
      go_wp2_with fail
      go_meet
      exact HZ.out
    · go_wp2_with fail
      go_meet
      exact B2.out
  case rest =>
  have B3 := Lib.hid hcut
  clear hcut B2
  obtain ⟨⟨j0, j1, j2, j3⟩, ⟨j4, j5, j6, j7⟩, ⟨d0, d1, d2, d3⟩, u0, u1, u2, u3⟩ := B3.out.cells
  go_upto_region 11 with (fail)
  clear j0 j1 j2 j3 j4 j5 j6 j7 d0 d1 d2 d3 u0 u1 u2 u3
  go_cut [140] (fun s wx => s = .bool false ∧ At (G da dn dc ea en ec) W k l v b a n sa ha sn sc hn hc T H al rm rt rs da dn dc ea en ec g wx)
  case first =>
    by_cases hs : 0 < rs
    · have zf : (z2 == 0) = false := by simp; omega
      have zg : decide (0 < rs) = true := by simp; omega
      go_region_held3 (fun w' => (w'.cell? ⟨W.heap.size, 0, none⟩ = some (.int .i64 k) ∧ w'.cell? ⟨W.heap.size, 1, none⟩ = some (.int .i64 l) ∧ w'.cell? ⟨W.heap.size, 2, none⟩ = some (.int .i64 v) ∧ w'.cell? ⟨W.heap.size, 3, none⟩ = some (.int .i64 b)) ∧ (w'.cell? ⟨W.heap.size + 1, 0, none⟩ = some (.int .i64 a) ∧ w'.cell? ⟨W.heap.size + 1, 1, none⟩ = some (.int .i64 n) ∧ w'.cell? ⟨W.heap.size + 1, 2, none⟩ = some (.slice sa sn sc) ∧ w'.cell? ⟨W.heap.size + 1, 3, none⟩ = some (.slice ha hn hc)) ∧ (w'.cell? ⟨g, 0, none⟩ = some (.int .i64 T) ∧ w'.cell? ⟨g, 1, none⟩ = some (.int .i64 H) ∧ w'.cell? ⟨g, 2, none⟩ = some (.slice da dn dc) ∧ w'.cell? ⟨g, 3, none⟩ = some (.slice ea en ec)) ∧ (w'.cell? ⟨g + 1, 0, none⟩ = some (.bool al) ∧ w'.cell? ⟨g + 1, 1, none⟩ = some (.int .i64 rm) ∧ w'.cell? ⟨g + 1, 2, none⟩ = some (.int .i64 rt) ∧ w'.cell? ⟨g + 1, 3, none⟩ = some (.int .i64 rs))) (first | (with_reducible exact B3.out.cells) | (with_reducible exact (B3.out.drew HG.out).cells) | (with_reducible exact B11.out.cells) | (with_reducible exact B12.out.cells) | (with_reducible exact B13.out.cells) | go_keep) (first | (go_at_call 15; (with_reducible refine (Z1'.out _ _ _ _ _ _ _ (B3.out.drew HG.out).gd).mono ?_); rintro e wa ⟨rfl, hb⟩; have B11 := Lib.hid ((B3.out.drew HG.out).step HG.out hb); clear hb) | (go_at_call 15; (with_reducible refine ((Z2'.out hs) _ _ _ _ _ _ _ B11.out.gd).mono ?_); rintro e wb ⟨rfl, hb⟩; have B12 := Lib.hid ((B11.out).step HG.out hb); clear hb) | (go_at_call 17; (with_reducible refine (EN'.out _ _ _ _ _ _ _ B12.out.gd).mono ?_); rintro e wc ⟨rfl, hb⟩; have B13 := Lib.hid ((B12.out).step HG.out hb); clear hb))
      all_goals (go_wp2_with fail; go_meet; exact ⟨rfl, B13.out⟩)
    · have zf : decide (0 < rs) = false := by simp; omega
      refine wp_region_held_drew (S := fun w' => (w'.cell? ⟨W.heap.size, 0, none⟩ = some (.int .i64 k) ∧ w'.cell? ⟨W.heap.size, 1, none⟩ = some (.int .i64 l) ∧ w'.cell? ⟨W.heap.size, 2, none⟩ = some (.int .i64 v) ∧ w'.cell? ⟨W.heap.size, 3, none⟩ = some (.int .i64 b)) ∧ (w'.cell? ⟨W.heap.size + 1, 0, none⟩ = some (.int .i64 a) ∧ w'.cell? ⟨W.heap.size + 1, 1, none⟩ = some (.int .i64 n) ∧ w'.cell? ⟨W.heap.size + 1, 2, none⟩ = some (.slice sa sn sc) ∧ w'.cell? ⟨W.heap.size + 1, 3, none⟩ = some (.slice ha hn hc)) ∧ (w'.cell? ⟨g, 0, none⟩ = some (.int .i64 T) ∧ w'.cell? ⟨g, 1, none⟩ = some (.int .i64 H) ∧ w'.cell? ⟨g, 2, none⟩ = some (.slice da dn dc) ∧ w'.cell? ⟨g, 3, none⟩ = some (.slice ea en ec)) ∧ (w'.cell? ⟨g + 1, 0, none⟩ = some (.bool al) ∧ w'.cell? ⟨g + 1, 1, none⟩ = some (.int .i64 rm) ∧ w'.cell? ⟨g + 1, 2, none⟩ = some (.int .i64 rt) ∧ w'.cell? ⟨g + 1, 3, none⟩ = some (.int .i64 rs))) (by kernel_rfl) ?_ (fun hHeld => ?_)
      · exact (B3.out.drew HG.out).cells
      refine wpAnyH_take (i := 0) (oi := ⟨some 104, _, _, _, _, _⟩) (v := ?_) rfl (by kernel_rfl) (by kernel_rfl) (by kernel_rfl) (fun _ _ _ h => h) (Or.inl ⟨by rfl, ?_⟩) (by assumption) ?_
      rotate_left
      · (intro w hSw; (try dsimp only at hSw); go_simp) <;> with_reducible rfl
      try simp only [Act.put, List.setIfInBounds_toArray, List.set_cons_zero, List.set_cons_succ]
      refine wpAnyH_take (i := 1) (oi := ⟨some 105, _, _, _, _, _⟩) (v := ?_) rfl (by kernel_rfl) (by kernel_rfl) (by kernel_rfl) (fun _ _ _ h => h) (Or.inl ⟨by rfl, ?_⟩) (by assumption) ?_
      rotate_left
      · (intro w hSw; (try dsimp only at hSw); go_simp) <;> with_reducible rfl
      try simp only [Act.put, List.setIfInBounds_toArray, List.set_cons_zero, List.set_cons_succ]
      refine wpAnyH_take (i := 2) (oi := ⟨some 106, _, _, _, _, _⟩) (v := ?_) rfl (by kernel_rfl) (by kernel_rfl) (by kernel_rfl) (fun _ _ _ h => h) (Or.inl ⟨by rfl, ?_⟩) (by assumption) ?_
      rotate_left
      · (intro w hSw; (try dsimp only at hSw); go_simp) <;> with_reducible rfl
      try simp only [Act.put, List.setIfInBounds_toArray, List.set_cons_zero, List.set_cons_succ]
      refine wpAnyH_take (i := 3) (oi := ⟨some 107, _, _, _, _, _⟩) (v := ?_) rfl (by kernel_rfl) (by kernel_rfl) (by kernel_rfl) (fun _ _ _ h => h) (Or.inl ⟨by rfl, ?_⟩) (by assumption) ?_
      rotate_left
      · (intro w hSw; (try dsimp only at hSw); go_simp) <;> with_reducible rfl
      try simp only [Act.put, List.setIfInBounds_toArray, List.set_cons_zero, List.set_cons_succ]
      refine wpAnyH_take (i := 4) (oi := ⟨some 108, _, _, _, _, _⟩) (v := ?_) rfl (by kernel_rfl) (by kernel_rfl) (by kernel_rfl) (fun _ _ _ h => h) (Or.inl ⟨by rfl, ?_⟩) (by assumption) ?_
      rotate_left
      · (intro w hSw; (try dsimp only at hSw); go_simp) <;> with_reducible rfl
      try simp only [Act.put, List.setIfInBounds_toArray, List.set_cons_zero, List.set_cons_succ]
      refine wpAnyH_take (i := 5) (oi := ⟨some 109, _, _, _, _, _⟩) (v := ?_) rfl (by kernel_rfl) (by kernel_rfl) (by kernel_rfl) (fun _ _ _ h => h) (Or.inl ⟨by rfl, ?_⟩) (by assumption) ?_
      rotate_left
      · (intro w hSw; (try dsimp only at hSw); go_simp) <;> with_reducible rfl
      try simp only [Act.put, List.setIfInBounds_toArray, List.set_cons_zero, List.set_cons_succ]
      refine wpAnyH_take (i := 6) (oi := ⟨some 110, _, _, _, _, _⟩) (v := ?_) rfl (by kernel_rfl) (by kernel_rfl) (by kernel_rfl) (fun _ _ _ h => h) (Or.inl ⟨by rfl, ?_⟩) (by assumption) ?_
      rotate_left
      · (intro w hSw; (try dsimp only at hSw); go_simp) <;> with_reducible rfl
      try simp only [Act.put, List.setIfInBounds_toArray, List.set_cons_zero, List.set_cons_succ]
      refine wpAnyH_ready (rs := [7]) (by kernel_rfl) (by simp) ?_
      refine AllReadyH.cons (o := ⟨some 111, _, _, _, _, _⟩) rfl (fun K hK => ?_) AllReadyH.nil
      go_simp
      (go_at_call 15; (with_reducible refine (Z1'.out _ _ _ _ _ _ _ (B3.out.drew HG.out).gd).mono ?_); rintro e wa ⟨rfl, hb⟩; have B11 := Lib.hid ((B3.out.drew HG.out).step HG.out hb); clear hb)
      refine hK.out _ _ ?_ (fun hHeld => ?_)
      · exact B11.out.cells
      clear hK K
      try simp only [Act.put, List.setIfInBounds_toArray, List.set_cons_zero, List.set_cons_succ]
      refine wpAnyH_take (i := 8) (oi := ⟨some 112, _, _, _, _, _⟩) (v := ?_) rfl (by kernel_rfl) (by kernel_rfl) (by kernel_rfl) (fun _ _ _ h => h) (Or.inl ⟨by rfl, ?_⟩) (by assumption) ?_
      rotate_left
      · (intro w hSw; (try dsimp only at hSw); go_simp) <;> with_reducible rfl
      try simp only [Act.put, List.setIfInBounds_toArray, List.set_cons_zero, List.set_cons_succ]
      refine wpAnyH_take (i := 9) (oi := ⟨some 113, _, _, _, _, _⟩) (v := ?_) rfl (by kernel_rfl) (by kernel_rfl) (by kernel_rfl) (fun _ _ _ h => h) (Or.inl ⟨by rfl, ?_⟩) (by assumption) ?_
      rotate_left
      · (intro w hSw; (try dsimp only at hSw); go_simp) <;> with_reducible rfl
      try simp only [Act.put, List.setIfInBounds_toArray, List.set_cons_zero, List.set_cons_succ]
      refine wpAnyH_take (i := 10) (oi := ⟨some 114, _, _, _, _, _⟩) (v := ?_) rfl (by kernel_rfl) (by kernel_rfl) (by kernel_rfl) (fun _ _ _ h => h) (Or.inl ⟨by rfl, ?_⟩) (by assumption) ?_
      rotate_left
      · (intro w hSw; (try dsimp only at hSw); go_simp) <;> with_reducible rfl
      try simp only [Act.put, List.setIfInBounds_toArray, List.set_cons_zero, List.set_cons_succ]
      refine wpAnyH_take (i := 11) (oi := ⟨some 115, _, _, _, _, _⟩) (v := ?_) rfl (by kernel_rfl) (by kernel_rfl) (by kernel_rfl) (fun _ _ _ h => h) (Or.inl ⟨by rfl, ?_⟩) (by assumption) ?_
      rotate_left
      · (intro w hSw; (try dsimp only at hSw); go_simp) <;> with_reducible rfl
      try simp only [Act.put, List.setIfInBounds_toArray, List.set_cons_zero, List.set_cons_succ]
      refine wpAnyH_take (i := 12) (oi := ⟨some 116, _, _, _, _, _⟩) (v := ?_) rfl (by kernel_rfl) (by kernel_rfl) (by kernel_rfl) (fun _ _ _ h => h) (Or.inl ⟨by rfl, ?_⟩) (by assumption) ?_
      rotate_left
      · (intro w hSw; (try dsimp only at hSw); go_simp) <;> with_reducible rfl
      try simp only [Act.put, List.setIfInBounds_toArray, List.set_cons_zero, List.set_cons_succ]
      refine wpAnyH_take (i := 13) (oi := ⟨some 117, _, _, _, _, _⟩) (v := ?_) rfl (by kernel_rfl) (by kernel_rfl) (by kernel_rfl) (fun _ _ _ h => h) (Or.inl ⟨by rfl, ?_⟩) (by assumption) ?_
      rotate_left
      · (intro w hSw; (try dsimp only at hSw); go_simp) <;> with_reducible rfl
      try simp only [Act.put, List.setIfInBounds_toArray, List.set_cons_zero, List.set_cons_succ]
      refine wpAnyH_take (i := 14) (oi := ⟨some 118, _, _, _, _, _⟩) (v := undef) rfl (by kernel_rfl) (by kernel_rfl) (by kernel_rfl) (fun _ _ _ h => h) (Or.inr ⟨by rfl, rfl⟩) (by assumption) ?_
      try simp only [Act.put, List.setIfInBounds_toArray, List.set_cons_zero, List.set_cons_succ]
      refine wpAnyH_take (i := 15) (oi := ⟨some 119, _, _, _, _, _⟩) (v := undef) rfl (by kernel_rfl) (by kernel_rfl) (by kernel_rfl) (fun _ _ _ h => h) (Or.inr ⟨by rfl, rfl⟩) (by assumption) ?_
      try simp only [Act.put, List.setIfInBounds_toArray, List.set_cons_zero, List.set_cons_succ]
      refine wpAnyH_take (i := 16) (oi := ⟨some 120, _, _, _, _, _⟩) (v := undef) rfl (by kernel_rfl) (by kernel_rfl) (by kernel_rfl) (fun _ _ _ h => h) (Or.inr ⟨by rfl, rfl⟩) (by assumption) ?_
      try simp only [Act.put, List.setIfInBounds_toArray, List.set_cons_zero, List.set_cons_succ]
      refine wpAnyH_take (i := 17) (oi := ⟨some 121, _, _, _, _, _⟩) (v := undef) rfl (by kernel_rfl) (by kernel_rfl) (by kernel_rfl) (fun _ _ _ h => h) (Or.inr ⟨by rfl, rfl⟩) (by assumption) ?_
      try simp only [Act.put, List.setIfInBounds_toArray, List.set_cons_zero, List.set_cons_succ]
      refine wpAnyH_take (i := 18) (oi := ⟨some 122, _, _, _, _, _⟩) (v := undef) rfl (by kernel_rfl) (by kernel_rfl) (by kernel_rfl) (fun _ _ _ h => h) (Or.inr ⟨by rfl, rfl⟩) (by assumption) ?_
      try simp only [Act.put, List.setIfInBounds_toArray, List.set_cons_zero, List.set_cons_succ]
      refine wpAnyH_take (i := 19) (oi := ⟨some 123, _, _, _, _, _⟩) (v := undef) rfl (by kernel_rfl) (by kernel_rfl) (by kernel_rfl) (fun _ _ _ h => h) (Or.inr ⟨by rfl, rfl⟩) (by assumption) ?_
      try simp only [Act.put, List.setIfInBounds_toArray, List.set_cons_zero, List.set_cons_succ]
      refine wpAnyH_take (i := 20) (oi := ⟨some 124, _, _, _, _, _⟩) (v := undef) rfl (by kernel_rfl) (by kernel_rfl) (by kernel_rfl) (fun _ _ _ h => h) (Or.inr ⟨by rfl, rfl⟩) (by assumption) ?_
      try simp only [Act.put, List.setIfInBounds_toArray, List.set_cons_zero, List.set_cons_succ]
      refine wpAnyH_take (i := 21) (oi := ⟨some 125, _, _, _, _, _⟩) (v := undef) rfl (by kernel_rfl) (by kernel_rfl) (by kernel_rfl) (fun _ _ _ h => h) (Or.inr ⟨by rfl, rfl⟩) (by assumption) ?_
      try simp only [Act.put, List.setIfInBounds_toArray, List.set_cons_zero, List.set_cons_succ]
      refine wpAnyH_take (i := 22) (oi := ⟨some 126, _, _, _, _, _⟩) (v := undef) rfl (by kernel_rfl) (by kernel_rfl) (by kernel_rfl) (fun _ _ _ h => h) (Or.inr ⟨by rfl, rfl⟩) (by assumption) ?_
      try simp only [Act.put, List.setIfInBounds_toArray, List.set_cons_zero, List.set_cons_succ]
      refine wpAnyH_take (i := 23) (oi := ⟨some 127, _, _, _, _, _⟩) (v := undef) rfl (by kernel_rfl) (by kernel_rfl) (by kernel_rfl) (fun _ _ _ h => h) (Or.inr ⟨by rfl, rfl⟩) (by assumption) ?_
      try simp only [Act.put, List.setIfInBounds_toArray, List.set_cons_zero, List.set_cons_succ]
      refine wpAnyH_take (i := 24) (oi := ⟨some 128, _, _, _, _, _⟩) (v := ?_) rfl (by kernel_rfl) (by kernel_rfl) (by kernel_rfl) (fun _ _ _ h => h) (Or.inl ⟨by rfl, ?_⟩) (by assumption) ?_
      rotate_left
      · (intro w hSw; (try dsimp only at hSw); go_simp) <;> with_reducible rfl
      try simp only [Act.put, List.setIfInBounds_toArray, List.set_cons_zero, List.set_cons_succ]
      refine wpAnyH_take (i := 25) (oi := ⟨some 129, _, _, _, _, _⟩) (v := ?_) rfl (by kernel_rfl) (by kernel_rfl) (by kernel_rfl) (fun _ _ _ h => h) (Or.inl ⟨by rfl, ?_⟩) (by assumption) ?_
      rotate_left
      · (intro w hSw; (try dsimp only at hSw); go_simp) <;> with_reducible rfl
      try simp only [Act.put, List.setIfInBounds_toArray, List.set_cons_zero, List.set_cons_succ]
      refine wpAnyH_take (i := 26) (oi := ⟨some 130, _, _, _, _, _⟩) (v := ?_) rfl (by kernel_rfl) (by kernel_rfl) (by kernel_rfl) (fun _ _ _ h => h) (Or.inl ⟨by rfl, ?_⟩) (by assumption) ?_
      rotate_left
      · (intro w hSw; (try dsimp only at hSw); go_simp) <;> with_reducible rfl
      try simp only [Act.put, List.setIfInBounds_toArray, List.set_cons_zero, List.set_cons_succ]
      refine wpAnyH_take (i := 27) (oi := ⟨some 131, _, _, _, _, _⟩) (v := ?_) rfl (by kernel_rfl) (by kernel_rfl) (by kernel_rfl) (fun _ _ _ h => h) (Or.inl ⟨by rfl, ?_⟩) (by assumption) ?_
      rotate_left
      · (intro w hSw; (try dsimp only at hSw); go_simp) <;> with_reducible rfl
      try simp only [Act.put, List.setIfInBounds_toArray, List.set_cons_zero, List.set_cons_succ]
      refine wpAnyH_take (i := 28) (oi := ⟨some 132, _, _, _, _, _⟩) (v := ?_) rfl (by kernel_rfl) (by kernel_rfl) (by kernel_rfl) (fun _ _ _ h => h) (Or.inl ⟨by rfl, ?_⟩) (by assumption) ?_
      rotate_left
      · (intro w hSw; (try dsimp only at hSw); go_simp) <;> with_reducible rfl
      try simp only [Act.put, List.setIfInBounds_toArray, List.set_cons_zero, List.set_cons_succ]
      refine wpAnyH_take (i := 30) (oi := ⟨some 134, _, _, _, _, _⟩) (v := ?_) rfl (by kernel_rfl) (by kernel_rfl) (by kernel_rfl) (fun _ _ _ h => h) (Or.inl ⟨by rfl, ?_⟩) (by assumption) ?_
      rotate_left
      · (intro w hSw; (try dsimp only at hSw); go_simp) <;> with_reducible rfl
      try simp only [Act.put, List.setIfInBounds_toArray, List.set_cons_zero, List.set_cons_succ]
      refine wpAnyH_take (i := 31) (oi := ⟨some 135, _, _, _, _, _⟩) (v := ?_) rfl (by kernel_rfl) (by kernel_rfl) (by kernel_rfl) (fun _ _ _ h => h) (Or.inl ⟨by rfl, ?_⟩) (by assumption) ?_
      rotate_left
      · (intro w hSw; (try dsimp only at hSw); go_simp) <;> with_reducible rfl
      try simp only [Act.put, List.setIfInBounds_toArray, List.set_cons_zero, List.set_cons_succ]
      refine wpAnyH_take (i := 32) (oi := ⟨some 136, _, _, _, _, _⟩) (v := ?_) rfl (by kernel_rfl) (by kernel_rfl) (by kernel_rfl) (fun _ _ _ h => h) (Or.inl ⟨by rfl, ?_⟩) (by assumption) ?_
      rotate_left
      · (intro w hSw; (try dsimp only at hSw); go_simp) <;> with_reducible rfl
      try simp only [Act.put, List.setIfInBounds_toArray, List.set_cons_zero, List.set_cons_succ]
      refine wpAnyH_take (i := 33) (oi := ⟨some 137, _, _, _, _, _⟩) (v := ?_) rfl (by kernel_rfl) (by kernel_rfl) (by kernel_rfl) (fun _ _ _ h => h) (Or.inl ⟨by rfl, ?_⟩) (by assumption) ?_
      rotate_left
      · (intro w hSw; (try dsimp only at hSw); go_simp) <;> with_reducible rfl
      try simp only [Act.put, List.setIfInBounds_toArray, List.set_cons_zero, List.set_cons_succ]
      refine wpAnyH_take (i := 34) (oi := ⟨some 138, _, _, _, _, _⟩) (v := ?_) rfl (by kernel_rfl) (by kernel_rfl) (by kernel_rfl) (fun _ _ _ h => h) (Or.inl ⟨by rfl, ?_⟩) (by assumption) ?_
      rotate_left
      · (intro w hSw; (try dsimp only at hSw); go_simp) <;> with_reducible rfl
      try simp only [Act.put, List.setIfInBounds_toArray, List.set_cons_zero, List.set_cons_succ]
      refine wpAnyH_ready (rs := [29]) (by kernel_rfl) (by simp) ?_
      refine AllReadyH.cons (o := ⟨some 133, _, _, _, _, _⟩) rfl (fun K hK => ?_) AllReadyH.nil
      go_simp
      (go_at_call 17; (with_reducible refine (EN'.out _ _ _ _ _ _ _ B11.out.gd).mono ?_); rintro e wc ⟨rfl, hb⟩; have B13 := Lib.hid ((B11.out).step HG.out hb); clear hb)
      refine hK.out _ _ ?_ (fun hHeld => ?_)
      · exact B13.out.cells
      clear hK K
      try simp only [Act.put, List.setIfInBounds_toArray, List.set_cons_zero, List.set_cons_succ]
      refine wpAnyH_take (i := 35) (oi := ⟨some 139, _, _, _, _, _⟩) (v := ?_) rfl (by kernel_rfl) (by kernel_rfl) (by kernel_rfl) (fun _ _ _ h => h) (Or.inl ⟨by rfl, ?_⟩) (by assumption) ?_
      rotate_left
      · (intro w hSw; (try dsimp only at hSw); go_simp) <;> with_reducible rfl
      try simp only [Act.put, List.setIfInBounds_toArray, List.set_cons_zero, List.set_cons_succ]
      refine wpAnyH_take (i := 36) (oi := ⟨some 140, _, _, _, _, _⟩) (v := ?_) rfl (by kernel_rfl) (by kernel_rfl) (by kernel_rfl) (fun _ _ _ h => h) (Or.inl ⟨by rfl, ?_⟩) (by assumption) ?_
      rotate_left
      · (intro w hSw; (try dsimp only at hSw); go_simp) <;> with_reducible rfl
      try simp only [Act.put, List.setIfInBounds_toArray, List.set_cons_zero, List.set_cons_succ]
      refine wpAnyH_done (by kernel_rfl) ?_ _
      all_goals (go_wp2_with fail; go_meet; exact ⟨rfl, B13.out⟩)
  case rest =>
  obtain ⟨rfl, hz⟩ := hcut
  have B4 := Lib.hid hz
  clear hz e1 e2 B3
  cases al
  · by_cases hl : l < m
    · obtain rfl : rt = 2199023255552 := NV'.out rfl hl
      obtain ⟨⟨j0, j1, j2, j3⟩, ⟨j4, j5, j6, j7⟩, ⟨d0, d1, d2, d3⟩, u0, u1, u2, u3⟩ := B4.out.cells
      go_wp2_with fail
      refine (live_any _).mono ?_; rintro e wl ⟨rfl, hb⟩
      have BL := Lib.hid (B4.out.step HG.out hb)
      clear hb
      go_wp2_with fail
      go_ret
      exact ⟨rfl, BL.out.be⟩
    · obtain ⟨rt0, rt1⟩ := RT'.out rfl (by omega)
      have CT1 := Lib.hid (TH'.out rfl (by omega))
      have CT2 := Lib.hid (AH'.out rfl (by omega))
      obtain ⟨⟨j0, j1, j2, j3⟩, ⟨j4, j5, j6, j7⟩, ⟨d0, d1, d2, d3⟩, u0, u1, u2, u3⟩ := B4.out.cells
      go_wp2_with fail
      refine (CT1.out _ _ _ _ _ _ _ B4.out.gd).mono ?_; rintro e y5 ⟨x0, x1, xa, ya, xn, xc, yn, yc, v1, v2, v3, rfl, hb⟩
      clear j0 j1 j2 j3 j4 j5 j6 j7 d0 d1 d2 d3 u0 u1 u2 u3
      have B5 := Lib.hid ((B4.out.step HG.out hb).two HG.out (.cells #[.int .i64 x0, .int .i64 x1, .slice xa xn xc, .slice ya yn yc] 27) (.cells #[.bool true, .int .i64 v1, .int .i64 v2, .int .i64 v3] 32))
      have t5 := Lib.hid (made2 y5 32 27 [.bool true, .int .i64 v1, .int .i64 v2, .int .i64 v3] (.cells #[.int .i64 x0, .int .i64 x1, .slice xa xn xc, .slice ya yn yc] 27))
      clear hb
      obtain ⟨⟨j0, j1, j2, j3⟩, ⟨j4, j5, j6, j7⟩, ⟨d0, d1, d2, d3⟩, u0, u1, u2, u3⟩ := B5.out.cells
      go_wp2_with fail
      refine (CT2.out _ _ _ _ _ _ _ B5.out.gd).mono ?_; rintro e y6 ⟨p0, p1, pa, qa, pn, pc, qn, qc, r1, r2, r3, rfl, hb⟩
      clear j0 j1 j2 j3 j4 j5 j6 j7 d0 d1 d2 d3 u0 u1 u2 u3
      have B6 := Lib.hid ((B5.out.step HG.out hb).two HG.out (.cells #[.int .i64 p0, .int .i64 p1, .slice pa pn pc, .slice qa qn qc] 27) (.cells #[.bool false, .int .i64 r1, .int .i64 r2, .int .i64 r3] 32))
      have t6 := Lib.hid (((t5.out.step hb).alloc (.cells #[.int .i64 p0, .int .i64 p1, .slice pa pn pc, .slice qa qn qc] 27)).alloc (.cells #[.bool false, .int .i64 r1, .int .i64 r2, .int .i64 r3] 32))
      have a6 := Lib.hid (made2 y6 32 27 [.bool false, .int .i64 r1, .int .i64 r2, .int .i64 r3] (.cells #[.int .i64 p0, .int .i64 p1, .slice pa pn pc, .slice qa qn qc] 27))
      clear hb
      obtain ⟨k0, k1, k2, k3⟩ := t6.out.four
      obtain ⟨m0, m1', m2', m3⟩ := a6.out.four
      obtain ⟨⟨j0, j1, j2, j3⟩, ⟨j4, j5, j6, j7⟩, ⟨d0, d1, d2, d3⟩, u0, u1, u2, u3⟩ := B6.out.cells
      go_wp2_with fail
      refine (live_any _).mono ?_; rintro e wl ⟨rfl, hb⟩
      have BL := Lib.hid (B6.out.step HG.out hb)
      clear hb
      go_wp2_with fail
      go_ret
      exact ⟨rfl, BL.out.be⟩
  · obtain rfl : rt = 0 := AL'.out rfl
    obtain ⟨⟨j0, j1, j2, j3⟩, ⟨j4, j5, j6, j7⟩, ⟨d0, d1, d2, d3⟩, u0, u1, u2, u3⟩ := B4.out.cells
    go_wp2_with fail
    refine (live_any _).mono ?_; rintro e wl ⟨rfl, hb⟩
    have BL := Lib.hid (B4.out.step HG.out hb)
    clear hb
    go_wp2_with fail
    go_ret
    exact ⟨rfl, BL.out.be⟩
end Go.Proofs.Ytgdcgilhaedbmaa.exactMay
