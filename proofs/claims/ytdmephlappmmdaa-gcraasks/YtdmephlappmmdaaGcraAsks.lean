/- For every policy, every cell and every two numbers the law GcraAsks returns true: Ask, May, Level and Ends tell what the document's own do. No condition. -/
import Derived.Test.YtdmephlappmmdaaRows
import Derived.Test.YtdmephlappmmdaaGcLive
import Derived.Test.YtdmephlappmmdaaGc7
import Derived.Test.YtdmephlappmmdaaGcPure
import Derived.Test.YtdmephlappmmdaaCel0
import Derived.Deep.RegionHeld3
namespace Go.Proofs.Ytdmephlappmmdaa.gcraAsks
open Go.ChangeShapes Go.WideShapes Go.ChangeAt Go.RowKit
set_option linter.unusedVariables false

theorem may_e (k l v b a n : Int) (sa ha : Option Addr) (sn sc hn hc : Nat) : ∃ r : Bool, (∀ u, Calls Try.prog 13 #[.agg #[.int .i64 k, .int .i64 l, .int .i64 v, .int .i64 b], .agg #[.int .i64 a, .int .i64 n, .slice sa sn sc, .slice ha hn hc]] u fun e w' => e = .returned (.bool r) ∧ Below u.heap.size u w') ∧ (∀ u, Calls Try.prog 14 #[.agg #[.int .i64 k, .int .i64 l, .int .i64 v, .int .i64 b], .agg #[.int .i64 a, .int .i64 n, .slice sa sn sc, .slice ha hn hc]] u fun e w' => e = .returned (.bool r) ∧ Below u.heap.size u w') := by
  by_cases h : MayG k l v b a n sn hn
  · exact ⟨_, fun u => May_yes k l v b a n sa ha sn sc hn hc u h, fun u => rMay_yes k l v b a n sa ha sn sc hn hc u h⟩
  · exact ⟨_, fun u => May_no k l v b a n sa ha sn sc hn hc u h, fun u => rMay_no k l v b a n sa ha sn sc hn hc u h⟩
theorem lev_e (k l v b a n : Int) (sa ha : Option Addr) (sn sc hn hc : Nat) (t : Int) : ∃ r : Int, (∀ u, Calls Try.prog 15 #[.agg #[.int .i64 k, .int .i64 l, .int .i64 v, .int .i64 b], .agg #[.int .i64 a, .int .i64 n, .slice sa sn sc, .slice ha hn hc], .int .i64 t] u fun e w' => e = .returned (.int .i64 r) ∧ Below u.heap.size u w') ∧ (∀ u, Calls Try.prog 16 #[.agg #[.int .i64 k, .int .i64 l, .int .i64 v, .int .i64 b], .agg #[.int .i64 a, .int .i64 n, .slice sa sn sc, .slice ha hn hc], .int .i64 t] u fun e w' => e = .returned (.int .i64 r) ∧ Below u.heap.size u w') := by
  by_cases h : MayG k l v b a n sn hn
  · by_cases ht : 0 ≤ t ∧ t ≤ 1099511627776
    · exact ⟨_, fun u => Level_yes k l v b a n t sa ha sn sc hn hc u h ht.1 ht.2, fun u => rLevel_yes k l v b a n t sa ha sn sc hn hc u h ht.1 ht.2⟩
    · exact ⟨_, fun u => Level_t k l v b a n t sa ha sn sc hn hc u h ht, fun u => rLevel_t k l v b a n t sa ha sn sc hn hc u h ht⟩
  · exact ⟨_, fun u => Level_no k l v b a n t sa ha sn sc hn hc u h, fun u => rLevel_no k l v b a n t sa ha sn sc hn hc u h⟩
theorem end_e (k l v b a n : Int) (sa ha : Option Addr) (sn sc hn hc : Nat) : ∃ r : Int, (∀ u, Calls Try.prog 17 #[.agg #[.int .i64 k, .int .i64 l, .int .i64 v, .int .i64 b], .agg #[.int .i64 a, .int .i64 n, .slice sa sn sc, .slice ha hn hc]] u fun e w' => e = .returned (.int .i64 r) ∧ Below u.heap.size u w') ∧ (∀ u, Calls Try.prog 18 #[.agg #[.int .i64 k, .int .i64 l, .int .i64 v, .int .i64 b], .agg #[.int .i64 a, .int .i64 n, .slice sa sn sc, .slice ha hn hc]] u fun e w' => e = .returned (.int .i64 r) ∧ Below u.heap.size u w') := by
  by_cases h : MayG k l v b a n sn hn
  · exact ⟨_, fun u => Ends_yes k l v b a n sa ha sn sc hn hc u h, fun u => rEnds_yes k l v b a n sa ha sn sc hn hc u h⟩
  · exact ⟨_, fun u => Ends_no k l v b a n sa ha sn sc hn hc u h, fun u => rEnds_no k l v b a n sa ha sn sc hn hc u h⟩
/-- What both asks tell, and that the cell told is the one that came in, or has no lists. -/
structure AskE (k l v b a n : Int) (sa ha : Option Addr) (sn sc hn hc : Nat) (t m T H : Int) (xa ya : Option Addr) (xn xc yn yc : Nat) (al : Bool) (rm rt rs : Int) : Prop where
  c : ∀ u, Calls Try.prog 10 #[.agg #[.int .i64 k, .int .i64 l, .int .i64 v, .int .i64 b], .agg #[.int .i64 a, .int .i64 n, .slice sa sn sc, .slice ha hn hc], .int .i64 t, .int .i64 m] u fun e w' => e = .returned (.tuple #[.agg #[.int .i64 T, .int .i64 H, .slice xa xn xc, .slice ya yn yc], .agg #[.bool al, .int .i64 rm, .int .i64 rt, .int .i64 rs]]) ∧ Below u.heap.size u w'
  d : ∀ u, Calls Try.prog 11 #[.agg #[.int .i64 k, .int .i64 l, .int .i64 v, .int .i64 b], .agg #[.int .i64 a, .int .i64 n, .slice sa sn sc, .slice ha hn hc], .int .i64 t, .int .i64 m] u fun e w' => e = .returned (.tuple #[.agg #[.int .i64 T, .int .i64 H, .slice xa xn xc, .slice ya yn yc], .agg #[.bool al, .int .i64 rm, .int .i64 rt, .int .i64 rs]]) ∧ Below u.heap.size u w'
  l : (xn = 0 ∧ yn = 0) ∨ (xa = sa ∧ xn = sn ∧ ya = ha ∧ yn = hn)
theorem ask_e (k l v b a n : Int) (sa ha : Option Addr) (sn sc hn hc : Nat) (t m : Int) : ∃ (T H : Int) (xa ya : Option Addr) (xn xc yn yc : Nat) (al : Bool) (rm rt rs : Int), AskE k l v b a n sa ha sn sc hn hc t m T H xa ya xn xc yn yc al rm rt rs := by
  by_cases h : MayA k l v b a n t m sn hn
  · exact ⟨_, _, _, _, _, _, _, _, _, _, _, _, fun u => Ask_yes k l v b a n t m sa ha sn sc hn hc u h, fun u => rAsk_yes k l v b a n t m sa ha sn sc hn hc u h, .inl ⟨rfl, rfl⟩⟩
  · exact ⟨_, _, _, _, _, _, _, _, _, _, _, _, fun u => Ask_no k l v b a n t m sa ha sn sc hn hc u h, fun u => rAsk_no k l v b a n t m sa ha sn sc hn hc u h, .inr ⟨rfl, rfl, rfl, rfl⟩⟩

/-- The policy, the cell, the numbers, and what both asks told, in seven blocks. -/
structure At (w0 : World) (k l v b a n t m : Int) (x y : Value) (T H : Int) (x' y' : Value) (al : Bool) (rm rt rs : Int) (g1 g2 : Nat) (w : World) : Prop where
  p : Has w w0.heap.size 23 [.int .i64 k, .int .i64 l, .int .i64 v, .int .i64 b]
  c : Has w (w0.heap.size + 1) 27 [.int .i64 a, .int .i64 n, x, y]
  n : Has w (w0.heap.size + 1 + 1) 28 [.int .i64 t, .int .i64 m]
  c1 : Has w g1 27 [.int .i64 T, .int .i64 H, x', y']
  v1 : Has w (g1 + 1) 32 [.bool al, .int .i64 rm, .int .i64 rt, .int .i64 rs]
  c2 : Has w g2 27 [.int .i64 T, .int .i64 H, x', y']
  v2 : Has w (g2 + 1) 32 [.bool al, .int .i64 rm, .int .i64 rt, .int .i64 rs]
  be : Below w0.heap.size w0 w
structure At0 (w0 : World) (k l v b a n t m : Int) (x y : Value) (w : World) : Prop where
  p : Has w w0.heap.size 23 [.int .i64 k, .int .i64 l, .int .i64 v, .int .i64 b]
  c : Has w (w0.heap.size + 1) 27 [.int .i64 a, .int .i64 n, x, y]
  n : Has w (w0.heap.size + 1 + 1) 28 [.int .i64 t, .int .i64 m]
  be : Below w0.heap.size w0 w
theorem At0.made (w : World) (k l v b a n t m : Int) (x y : Value) : At0 w k l v b a n t m x y (((w.alloc (.cells #[.int .i64 k, .int .i64 l, .int .i64 v, .int .i64 b] 23)).alloc (.cells #[.int .i64 a, .int .i64 n, x, y] 27)).alloc (.cells #[.int .i64 t, .int .i64 m] 28)) := by
  refine ⟨((Has.made w 23 [.int .i64 k, .int .i64 l, .int .i64 v, .int .i64 b]).alloc _).alloc _, Has.alloc ?_ _, ?_, (((Below.refl _ _).alloc (Nat.le_refl _) _).alloc (by simp) _).alloc (by simp; omega) _⟩
  · have := Has.made (w.alloc (.cells #[.int .i64 k, .int .i64 l, .int .i64 v, .int .i64 b] 23)) 27 [.int .i64 a, .int .i64 n, x, y]
    simpa using this
  · have := Has.made ((w.alloc (.cells #[.int .i64 k, .int .i64 l, .int .i64 v, .int .i64 b] 23)).alloc (.cells #[.int .i64 a, .int .i64 n, x, y] 27)) 28 [.int .i64 t, .int .i64 m]
    simpa using this
section
variable {w0 w w' : World} {k l v b a n t m : Int} {x y : Value} {T H : Int} {x' y' : Value} {al : Bool} {rm rt rs : Int} {g1 g2 : Nat}
theorem At0.step (h : At0 w0 k l v b a n t m x y w) (hb : Below w.heap.size w w') : At0 w0 k l v b a n t m x y w' :=
  ⟨h.p.step hb, h.c.step hb, h.n.step hb, h.be.trans (hb.mono h.be.size)⟩
theorem At0.cells (h : At0 w0 k l v b a n t m x y w) :
    (w.cell? ⟨w0.heap.size, 0, none⟩ = some (.int .i64 k) ∧ w.cell? ⟨w0.heap.size, 1, none⟩ = some (.int .i64 l) ∧ w.cell? ⟨w0.heap.size, 2, none⟩ = some (.int .i64 v) ∧ w.cell? ⟨w0.heap.size, 3, none⟩ = some (.int .i64 b)) ∧
    (w.cell? ⟨w0.heap.size + 1, 0, none⟩ = some (.int .i64 a) ∧ w.cell? ⟨w0.heap.size + 1, 1, none⟩ = some (.int .i64 n) ∧ w.cell? ⟨w0.heap.size + 1, 2, none⟩ = some x ∧ w.cell? ⟨w0.heap.size + 1, 3, none⟩ = some y) ∧
    (w.cell? ⟨w0.heap.size + 1 + 1, 0, none⟩ = some (.int .i64 t) ∧ w.cell? ⟨w0.heap.size + 1 + 1, 1, none⟩ = some (.int .i64 m)) :=
  ⟨h.p.four, h.c.four, h.n.cell 0, h.n.cell 1⟩
theorem At0.two (h : At0 w0 k l v b a n t m x y w) (o o' : Obj) : At0 w0 k l v b a n t m x y ((w.alloc o).alloc o') :=
  (h.step ((Below.refl _ _).alloc (Nat.le_refl _) o)).step ((Below.refl _ _).alloc (Nat.le_refl _) o')
theorem At.step (h : At w0 k l v b a n t m x y T H x' y' al rm rt rs g1 g2 w) (hb : Below w.heap.size w w') : At w0 k l v b a n t m x y T H x' y' al rm rt rs g1 g2 w' :=
  ⟨h.p.step hb, h.c.step hb, h.n.step hb, h.c1.step hb, h.v1.step hb, h.c2.step hb, h.v2.step hb, h.be.trans (hb.mono h.be.size)⟩
theorem At.drew (h : At w0 k l v b a n t m x y T H x' y' al rm rt rs g1 g2 w) : At w0 k l v b a n t m x y T H x' y' al rm rt rs g1 g2 w.drew :=
  ⟨h.p, h.c, h.n, h.c1, h.v1, h.c2, h.v2, h.be.drew⟩
theorem At.cells (h : At w0 k l v b a n t m x y T H x' y' al rm rt rs g1 g2 w) : (w.cell? ⟨w0.heap.size, 0, none⟩ = some (.int .i64 k) ∧ w.cell? ⟨w0.heap.size, 1, none⟩ = some (.int .i64 l) ∧ w.cell? ⟨w0.heap.size, 2, none⟩ = some (.int .i64 v) ∧ w.cell? ⟨w0.heap.size, 3, none⟩ = some (.int .i64 b)) ∧ (w.cell? ⟨w0.heap.size + 1, 0, none⟩ = some (.int .i64 a) ∧ w.cell? ⟨w0.heap.size + 1, 1, none⟩ = some (.int .i64 n) ∧ w.cell? ⟨w0.heap.size + 1, 2, none⟩ = some (x) ∧ w.cell? ⟨w0.heap.size + 1, 3, none⟩ = some (y)) ∧ (w.cell? ⟨w0.heap.size + 1 + 1, 0, none⟩ = some (.int .i64 t) ∧ w.cell? ⟨w0.heap.size + 1 + 1, 1, none⟩ = some (.int .i64 m)) ∧ (w.cell? ⟨g1, 0, none⟩ = some (.int .i64 T) ∧ w.cell? ⟨g1, 1, none⟩ = some (.int .i64 H) ∧ w.cell? ⟨g1, 2, none⟩ = some (x') ∧ w.cell? ⟨g1, 3, none⟩ = some (y')) ∧ (w.cell? ⟨g1 + 1, 0, none⟩ = some (.bool al) ∧ w.cell? ⟨g1 + 1, 1, none⟩ = some (.int .i64 rm) ∧ w.cell? ⟨g1 + 1, 2, none⟩ = some (.int .i64 rt) ∧ w.cell? ⟨g1 + 1, 3, none⟩ = some (.int .i64 rs)) ∧ (w.cell? ⟨g2, 0, none⟩ = some (.int .i64 T) ∧ w.cell? ⟨g2, 1, none⟩ = some (.int .i64 H) ∧ w.cell? ⟨g2, 2, none⟩ = some (x') ∧ w.cell? ⟨g2, 3, none⟩ = some (y')) ∧ (w.cell? ⟨g2 + 1, 0, none⟩ = some (.bool al) ∧ w.cell? ⟨g2 + 1, 1, none⟩ = some (.int .i64 rm) ∧ w.cell? ⟨g2 + 1, 2, none⟩ = some (.int .i64 rt) ∧ w.cell? ⟨g2 + 1, 3, none⟩ = some (.int .i64 rs)) :=
  ⟨h.p.four, h.c.four, ⟨h.n.cell 0, h.n.cell 1⟩, h.c1.four, h.v1.four, h.c2.four, h.v2.four⟩
end

set_option maxRecDepth 100000 in
set_option maxHeartbeats 4000000 in
theorem few_no (k l v b a n t m : Int) (sa ha : Option Addr) (sn sc hn hc : Nat) (W : World) (h : ¬ (sn ≤ 40 ∧ hn ≤ 40)) (q1 : sn ≤ maxLen) (q2 : hn ≤ maxLen) :
    Calls Try.prog 3 #[.agg #[.int .i64 k, .int .i64 l, .int .i64 v, .int .i64 b], .agg #[.int .i64 a, .int .i64 n, .slice sa sn sc, .slice ha hn hc], .agg #[.int .i64 t, .int .i64 m]] W fun e w' => e = .returned (.bool true) ∧ Below W.heap.size W w' := by
  have FW := Lib.hid (fun u => Few_no a n sa ha sn sc hn hc u h q1 q2)
  have A0 := Lib.hid (At0.made W k l v b a n t m (.slice sa sn sc) (.slice ha hn hc))
  clear h q1 q2
  go_enter Try.func3, Try.ntmps3
  go_wp2_with fail
  refine (FW.out _).mono ?_; rintro e w1 ⟨rfl, hb⟩
  have A1 := Lib.hid (A0.out.step hb)
  clear hb A0
  go_wp2_with fail
  refine (live_any _).mono ?_; rintro e wl ⟨rfl, hb⟩
  have AL := Lib.hid (A1.out.step hb)
  clear hb
  go_wp2_with fail
  go_ret
  exact ⟨rfl, AL.out.be⟩

set_option maxRecDepth 100000 in
set_option maxHeartbeats 4000000 in
theorem few_yes (k l v b a n t m T H : Int) (sa ha xa ya : Option Addr) (sn sc hn hc xn xc yn yc : Nat) (al : Bool) (rm rt rs : Int) (f g1' g2' : Nat → Int) (W : World) (f1 : sn ≤ 40) (f2 : hn ≤ 40)
    (hA : AskE k l v b a n sa ha sn sc hn hc t m T H xa ya xn xc yn yc al rm rt rs) (x1 : xn ≤ 40) (x2 : yn ≤ 40) (hs : SumsAt W xa xn f) (hh : HitsAt W ya yn g1' g2') :
    Calls Try.prog 3 #[.agg #[.int .i64 k, .int .i64 l, .int .i64 v, .int .i64 b], .agg #[.int .i64 a, .int .i64 n, .slice sa sn sc, .slice ha hn hc], .agg #[.int .i64 t, .int .i64 m]] W fun e w' => e = .returned (.bool true) ∧ Below W.heap.size W w' := by
  have FW := Lib.hid (fun u => Few_yes a n sa ha sn sc hn hc u f1 f2)
  obtain ⟨mr, q1, q2⟩ := may_e k l v b a n sa ha sn sc hn hc
  have M1 := Lib.hid q1
  have M2 := Lib.hid q2
  clear q1 q2
  obtain ⟨lr, q1, q2⟩ := lev_e k l v b a n sa ha sn sc hn hc t
  have L1 := Lib.hid q1
  have L2 := Lib.hid q2
  clear q1 q2
  obtain ⟨er, q1, q2⟩ := end_e k l v b a n sa ha sn sc hn hc
  have E1 := Lib.hid q1
  have E2 := Lib.hid q2
  clear q1 q2
  have K1 := Lib.hid hA.c
  have K2 := Lib.hid hA.d
  have SU := Lib.hid hs
  have HI := Lib.hid hh
  have A0 := Lib.hid (At0.made W k l v b a n t m (.slice sa sn sc) (.slice ha hn hc))
  clear hA hs hh f1 f2
  go_enter Try.func3, Try.ntmps3
  go_wp2_with fail
  refine (FW.out _).mono ?_; rintro e w1 ⟨rfl, hb⟩
  have A1 := Lib.hid (A0.out.step hb)
  clear hb A0
  obtain ⟨⟨j0, j1, j2, j3⟩, ⟨j4, j5, j6, j7⟩, j8, j9⟩ := A1.out.cells
  go_wp2_with fail
  refine (K1.out _).mono ?_; rintro e w2 ⟨rfl, hb⟩
  clear j0 j1 j2 j3 j4 j5 j6 j7 j8 j9
  have A2 := Lib.hid ((A1.out.step hb).two (.cells #[.int .i64 T, .int .i64 H, .slice xa xn xc, .slice ya yn yc] 27) (.cells #[.bool al, .int .i64 rm, .int .i64 rt, .int .i64 rs] 32))
  have c2 := Lib.hid (made1 w2 27 [.int .i64 T, .int .i64 H, .slice xa xn xc, .slice ya yn yc] (.cells #[.bool al, .int .i64 rm, .int .i64 rt, .int .i64 rs] 32))
  have u2 := Lib.hid (made2 w2 32 27 [.bool al, .int .i64 rm, .int .i64 rt, .int .i64 rs] (.cells #[.int .i64 T, .int .i64 H, .slice xa xn xc, .slice ya yn yc] 27))
  clear hb A1
  obtain ⟨⟨j0, j1, j2, j3⟩, ⟨j4, j5, j6, j7⟩, j8, j9⟩ := A2.out.cells
  go_wp2_with fail
  refine (K2.out _).mono ?_; rintro e w3 ⟨rfl, hb⟩
  clear j0 j1 j2 j3 j4 j5 j6 j7 j8 j9
  have hz : At W k l v b a n t m (.slice sa sn sc) (.slice ha hn hc) T H (.slice xa xn xc) (.slice ya yn yc) al rm rt rs w2.heap.size w3.heap.size ((w3.alloc (.cells #[.int .i64 T, .int .i64 H, .slice xa xn xc, .slice ya yn yc] 27)).alloc (.cells #[.bool al, .int .i64 rm, .int .i64 rt, .int .i64 rs] 32)) := by
    have q := (A2.out.step hb).two (.cells #[.int .i64 T, .int .i64 H, .slice xa xn xc, .slice ya yn yc] 27) (.cells #[.bool al, .int .i64 rm, .int .i64 rt, .int .i64 rs] 32)
    exact ⟨q.p, q.c, q.n, ((c2.out.step hb).alloc _).alloc _, ((u2.out.step hb).alloc _).alloc _, made1 w3 27 [.int .i64 T, .int .i64 H, .slice xa xn xc, .slice ya yn yc] (.cells #[.bool al, .int .i64 rm, .int .i64 rt, .int .i64 rs] 32), made2 w3 32 27 [.bool al, .int .i64 rm, .int .i64 rt, .int .i64 rs] (.cells #[.int .i64 T, .int .i64 H, .slice xa xn xc, .slice ya yn yc] 27), q.be⟩
  clear hb A2 c2 u2
  go_wp2_with fail
  generalize (w3.alloc (.cells #[.int .i64 T, .int .i64 H, .slice xa xn xc, .slice ya yn yc] 27)).alloc (.cells #[.bool al, .int .i64 rm, .int .i64 rt, .int .i64 rs] 32) = wz at hz ⊢
  generalize w2.heap.size = g1 at hz ⊢
  generalize w3.heap.size = g2 at hz ⊢
  have AZ := Lib.hid hz
  clear hz
  go_region_held3 (fun w' => (w'.cell? ⟨W.heap.size, 0, none⟩ = some (.int .i64 k) ∧ w'.cell? ⟨W.heap.size, 1, none⟩ = some (.int .i64 l) ∧ w'.cell? ⟨W.heap.size, 2, none⟩ = some (.int .i64 v) ∧ w'.cell? ⟨W.heap.size, 3, none⟩ = some (.int .i64 b)) ∧ (w'.cell? ⟨W.heap.size + 1, 0, none⟩ = some (.int .i64 a) ∧ w'.cell? ⟨W.heap.size + 1, 1, none⟩ = some (.int .i64 n) ∧ w'.cell? ⟨W.heap.size + 1, 2, none⟩ = some (.slice sa sn sc) ∧ w'.cell? ⟨W.heap.size + 1, 3, none⟩ = some (.slice ha hn hc)) ∧ (w'.cell? ⟨W.heap.size + 1 + 1, 0, none⟩ = some (.int .i64 t) ∧ w'.cell? ⟨W.heap.size + 1 + 1, 1, none⟩ = some (.int .i64 m)) ∧ (w'.cell? ⟨g1, 0, none⟩ = some (.int .i64 T) ∧ w'.cell? ⟨g1, 1, none⟩ = some (.int .i64 H) ∧ w'.cell? ⟨g1, 2, none⟩ = some (.slice xa xn xc) ∧ w'.cell? ⟨g1, 3, none⟩ = some (.slice ya yn yc)) ∧ (w'.cell? ⟨g1 + 1, 0, none⟩ = some (.bool al) ∧ w'.cell? ⟨g1 + 1, 1, none⟩ = some (.int .i64 rm) ∧ w'.cell? ⟨g1 + 1, 2, none⟩ = some (.int .i64 rt) ∧ w'.cell? ⟨g1 + 1, 3, none⟩ = some (.int .i64 rs)) ∧ (w'.cell? ⟨g2, 0, none⟩ = some (.int .i64 T) ∧ w'.cell? ⟨g2, 1, none⟩ = some (.int .i64 H) ∧ w'.cell? ⟨g2, 2, none⟩ = some (.slice xa xn xc) ∧ w'.cell? ⟨g2, 3, none⟩ = some (.slice ya yn yc)) ∧ (w'.cell? ⟨g2 + 1, 0, none⟩ = some (.bool al) ∧ w'.cell? ⟨g2 + 1, 1, none⟩ = some (.int .i64 rm) ∧ w'.cell? ⟨g2 + 1, 2, none⟩ = some (.int .i64 rt) ∧ w'.cell? ⟨g2 + 1, 3, none⟩ = some (.int .i64 rs))) (first | (with_reducible exact AZ.out.cells) | (with_reducible exact AZ.out.drew.cells) | (with_reducible exact A11.out.cells) | (with_reducible exact A12.out.cells) | (with_reducible exact A13.out.cells) | (with_reducible exact A14.out.cells) | (with_reducible exact A15.out.cells) | (with_reducible exact A16.out.cells) | (with_reducible exact A17.out.cells) | (with_reducible exact A18.out.cells) | go_keep) (first | (go_at_call 12; (with_reducible refine (Same_eq T H xa xa ya ya xn xc xc yn yc yc f g1' g2' _ (SU.out.below AZ.out.be.drew) (SU.out.below AZ.out.be.drew) (HI.out.below AZ.out.be.drew) (HI.out.below AZ.out.be.drew) x1 x2).mono ?_); rintro e wa ⟨rfl, hb⟩; have A11 := Lib.hid ((AZ.out.drew).step hb); clear hb) | (go_at_call 13; (with_reducible refine (M1.out _).mono ?_); rintro e wb ⟨rfl, hb⟩; have A12 := Lib.hid ((A11.out).step hb); clear hb) | (go_at_call 14; (with_reducible refine (M2.out _).mono ?_); rintro e wc ⟨rfl, hb⟩; have A13 := Lib.hid ((A12.out).step hb); clear hb) | (go_at_call 15; (with_reducible refine (L1.out _).mono ?_); rintro e wd ⟨rfl, hb⟩; have A14 := Lib.hid ((A13.out).step hb); clear hb) | (go_at_call 16; (with_reducible refine (L2.out _).mono ?_); rintro e we ⟨rfl, hb⟩; have A15 := Lib.hid ((A14.out).step hb); clear hb) | (go_at_call 17; (with_reducible refine (E1.out _).mono ?_); rintro e wf ⟨rfl, hb⟩; have A16 := Lib.hid ((A15.out).step hb); clear hb) | (go_at_call 18; (with_reducible refine (E2.out _).mono ?_); rintro e wg ⟨rfl, hb⟩; have A17 := Lib.hid ((A16.out).step hb); clear hb) | (go_at_call 9; (with_reducible refine (live_any _).mono ?_); rintro e wh ⟨rfl, hb⟩; have A18 := Lib.hid ((A17.out).step hb); clear hb))
  all_goals (go_wp2_with fail; go_ret; exact ⟨rfl, A18.out.be⟩)

theorem walk (k l v b : Int) (c : CellV) (t m : Int) (h0 : (Lit.int .i64 k).wf = true) (h1 : (Lit.int .i64 l).wf = true) (h2 : (Lit.int .i64 v).wf = true) (h3 : (Lit.int .i64 b).wf = true) {W : World} (hc : IsCell W c) (i0 : (Lit.int .i64 t).wf = true) (i1 : (Lit.int .i64 m).wf = true) :
    Calls Try.prog 3 #[.agg #[.int .i64 k, .int .i64 l, .int .i64 v, .int .i64 b], .agg #[.int .i64 c.a, .int .i64 c.n, .slice c.sa c.sn c.sc, .slice c.ha c.hn c.hc], .agg ([t, m].map (Value.int .i64)).toArray] W fun e w' => e = .returned (.bool true) ∧ Below W.heap.size W w' := by
  obtain ⟨q1, q2⟩ := hc.len
  show Calls Try.prog 3 #[.agg #[.int .i64 k, .int .i64 l, .int .i64 v, .int .i64 b], .agg #[.int .i64 c.a, .int .i64 c.n, .slice c.sa c.sn c.sc, .slice c.ha c.hn c.hc], .agg #[.int .i64 t, .int .i64 m]] W fun e w' => e = .returned (.bool true) ∧ Below W.heap.size W w'
  obtain ⟨s1, _⟩ := hc.ss.at_
  obtain ⟨g1, g2, s2⟩ := hc.hs.at_
  by_cases f : c.sn ≤ 40 ∧ c.hn ≤ 40
  · obtain ⟨T, H, xa, ya, xn, xc, yn, yc, al, rm, rt, rs, hA⟩ := ask_e k l v b c.a c.n c.sa c.ha c.sn c.sc c.hn c.hc t m
    rcases hA.l with ⟨e1, e2⟩ | ⟨e1, e2, e3, e4⟩
    · exact few_yes k l v b c.a c.n t m T H c.sa c.ha xa ya c.sn c.sc c.hn c.hc xn xc yn yc al rm rt rs (fun _ => 0) (fun _ => 0) (fun _ => 0) W f.1 f.2 hA (by omega) (by omega) (by rw [e1]; exact SumsAt.nil _ _ _) (by rw [e2]; exact HitsAt.nil _ _ _ _)
    · exact few_yes k l v b c.a c.n t m T H c.sa c.ha xa ya c.sn c.sc c.hn c.hc xn xc yn yc al rm rt rs _ g1 g2 W f.1 f.2 hA (by omega) (by omega) (by rw [e1, e2]; exact s1) (by rw [e3, e4]; exact s2)
  · exact few_no k l v b c.a c.n t m c.sa c.ha c.sn c.sc c.hn c.hc W f q1 q2

theorem own : ownKnob Try.prog.godebug = none := by kernel_rfl
theorem laidOut : laidOutB Try.prog = true := by kernel_rfl
theorem contract (H : Type) (enc : TypeId × Value → H) (W : World) (base : Nat) (args : Array Value) (ds gs : List (DataW H)) (before : List MemPlace)
    (hval : ∀ (j : Nat) t v, Try.f3.params[j]? = some t → args[j]? = some v → Value.okWide Try.prog W .any base t v)
    (hW : DataW.Whole enc Try.prog Try.f3.params.toList Rows.gcraAsksSpec.vars false W args.toList ds gs before) :
    Calls Try.prog 3 args W fun e W' => ∃ v, e = .returned v ∧ Rows.gcraAsksSpec.post enc Try.prog Try.f3 false true false false W args v W' := by
  have hW' := hW
  obtain ⟨p, q, hA0, hV, rfl, hfz, hnd⟩ := hW
  have hA : DataW.TrodAll enc Try.prog W 0 (fun _ => true) true Try.f3.params.toList args.toList ds p := hA0
  rw [Try.params3] at hA hval
  obtain ⟨v0, vs0, d0, ds0, p0, q0, hargs, rfl, rfl, h0, r0⟩ := trodAll_cons hA
  obtain ⟨v1, vs1, d1, ds1, p1, q1, rfl, rfl, rfl, h1, r1⟩ := trodAll_cons r0
  obtain ⟨v2, vs2, d2, ds2, p2, q2, rfl, rfl, rfl, h2, r2⟩ := trodAll_cons r1
  obtain ⟨rfl, rfl, rfl⟩ := trodAll_nil r2
  obtain rfl : args = #[v0, v1, v2] := by cases args; simp_all
  obtain ⟨rfl, rfl⟩ := trodVars_none hV
  have k0 := h0
  have lt0 : ∀ x ∈ p0, x.block < W.heap.size := by obtain ⟨m, hm⟩ := k0; exact DataW.trod_lt m _ _ _ hm
  obtain ⟨p0_k, p0_l, p0_v, p0_b, rfl, wp0_k, wp0_l, wp0_v, wp0_b⟩ := open_pol (hval 0 23 v0 rfl rfl) h0
  have k1 := h1
  have lt1 : ∀ x ∈ p1, x.block < W.heap.size := by obtain ⟨m, hm⟩ := k1; exact DataW.trod_lt m _ _ _ hm
  obtain ⟨c1, rfl, w1⟩ := open_cell (hval 1 27 v1 rfl rfl) h1
  have k2 := h2
  have lt2 : ∀ x ∈ p2, x.block < W.heap.size := by obtain ⟨m, hm⟩ := k2; exact DataW.trod_lt m _ _ _ hm
  obtain ⟨l2, rfl, hl2, wl2⟩ := open_arr_int Try.underlying28 Try.underlying3 (by kernel_rfl) (by kernel_rfl) (hval 2 28 v2 rfl rfl) h2
  obtain ⟨x2_0, x2_1, rfl⟩ : ∃ x2_0 x2_1, l2 = [x2_0, x2_1] := by
    match l2, hl2 with
    | [x2_0, x2_1], _ => exact ⟨x2_0, x2_1, rfl⟩
  clear hA0
  refine (walk p0_k p0_l p0_v p0_b c1 x2_0 x2_1 wp0_k wp0_l wp0_v wp0_b w1 (wl2 x2_0 (by simp)) (wl2 x2_1 (by simp))).mono fun e W' ⟨he, bel⟩ => ?_
  subst he
  exact ⟨_, rfl, _, _, _, [], _, [], hW', trodAll_mk1 (shut_bool Try.underlying4 _), (trodAll_cons_mk (Below.trod laidOut (by kernel_rfl) (of_decide_eq_true (by kernel_rfl)) k0 bel lt0) (trodAll_cons_mk (Below.trod laidOut (by kernel_rfl) (of_decide_eq_true (by kernel_rfl)) k1 bel lt1) (trodAll_cons_mk (Below.trod laidOut (by kernel_rfl) (of_decide_eq_true (by kernel_rfl)) k2 bel lt2) trodAll_mk0))), rfl, bel.frame _, fun h => by cases h⟩

set_option maxRecDepth 100000 in
theorem lifted (os : Os) (started : os.Started) (H : Type) (enc : TypeId × Value → H) :
    ReturnsInHanded {} Try.checked os 3 .any (Rows.gcraAsksSpec.pre6 enc Try.prog Try.f3 Rows.gcraAsksRow.domain false) (Rows.gcraAsksSpec.post enc Try.prog Try.f3 false true false false) := by
  refine returnsInHanded_of_change (C := Try.checked) own started (by kernel_rfl) Try.func3
    (ChangeSpec.witness6 (enc := enc) (C := Try.checked) false ⟨#[], #[.agg #[.int .i64 0, .int .i64 0, .int .i64 0, .int .i64 0], .agg #[.int .i64 0, .int .i64 0, .slice none 0 0, .slice none 0 0], .agg #[.int .i64 0, .int .i64 0]], []⟩ 8 (by kernel_rfl) (by kernel_rfl) (by kernel_rfl) (by kernel_rfl)) ?_
  intro W base args ds gs before hval hW _ _
  exact contract H enc W base args ds gs before hval hW

theorem over : Rows.gcraAsksRow.holds Try.pinned (OpenSpec.ofChange Rows.gcraAsksSpec) :=
  OpenClaim.holds_of_wide 3 Try.f3 rfl rfl rfl rfl rfl rfl rfl ⟨rfl, rfl, rfl, rfl, rfl⟩ rfl rfl rfl rfl rfl (by kernel_rfl) Try.func3 (by kernel_rfl)
    (of_decide_eq_true (by kernel_rfl)) (by unfold Func.isWrapper; first | (rw [if_pos (by decide +kernel)]; kernel_rfl) | (rw [if_neg (by decide +kernel)]; exact ⟨rfl, rfl⟩))
    (fun os started H enc _ => lifted os started H enc)
end Go.Proofs.Ytdmephlappmmdaa.gcraAsks
namespace Go.Proofs.Ytdmephlappmmdaa
theorem gcraAsks_proved : Rows.GcraAsksSaid := gcraAsks.over
end Go.Proofs.Ytdmephlappmmdaa

