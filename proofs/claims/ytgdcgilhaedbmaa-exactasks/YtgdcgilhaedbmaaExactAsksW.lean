/- The walk of the law ExactAsks, over contracts that are handed in. WRITTEN BY gen_lasks.py. -/
import Derived.Test.YtgdcgilhaedbmaaRows
import Derived.Test.YtgdcgilhaedbmaaExLive
import Derived.Test.YtgdcgilhaedbmaaCel1
import Derived.Deep.RegionHeld3
namespace Go.Proofs.Ytgdcgilhaedbmaa.exactAsks
open Go.ChangeShapes Go.WideShapes Go.ChangeAt Go.RowKit
set_option linter.unusedVariables false

structure At0 (w0 : World) (k l v b a n t m : Int) (x y : Value) (w : World) : Prop where
  p : Has w w0.heap.size 23 [.int .i64 k, .int .i64 l, .int .i64 v, .int .i64 b]
  c : Has w (w0.heap.size + 1) 27 [.int .i64 a, .int .i64 n, x, y]
  n : Has w (w0.heap.size + 1 + 1) 28 [.int .i64 t, .int .i64 m]
  be : Below w0.heap.size w0 w
theorem At0.made (w : World) (k l v b a n t m : Int) (x y : Value) : At0 w k l v b a n t m x y (((w.alloc (.cells #[.int .i64 k, .int .i64 l, .int .i64 v, .int .i64 b] 23)).alloc (.cells #[.int .i64 a, .int .i64 n, x, y] 27)).alloc (.cells #[.int .i64 t, .int .i64 m] 28)) := by
  refine ⟨((Has.made w 23 [.int .i64 k, .int .i64 l, .int .i64 v, .int .i64 b]).alloc _).alloc _, Has.alloc ?_ _, ?_, (((Below.refl _ _).alloc (Nat.le_refl _) _).alloc (by simp) _).alloc (by simp; omega) _⟩
  · have := Has.made (w.alloc (.cells #[.int .i64 k, .int .i64 l, .int .i64 v, .int .i64 b] 23)) 27 [.int .i64 a, .int .i64 n, x, y]
    simpa using this
  · have := Has.made ((w.alloc (.cells #[.int .i64 k, .int .i64 l, .int .i64 v, .int .i64 b] 23)).alloc (.cells #[.int .i64 a, .int .i64 n, x, y] 27)) 28 [.int .i64 t, .int .i64 m]
    simpa using this
section
variable {w0 w w' : World} {k l v b a n t m : Int} {x y : Value}
theorem At0.step (h : At0 w0 k l v b a n t m x y w) (hb : Below w.heap.size w w') : At0 w0 k l v b a n t m x y w' :=
  ⟨h.p.step hb, h.c.step hb, h.n.step hb, h.be.trans (hb.mono h.be.size)⟩
theorem At0.cells (h : At0 w0 k l v b a n t m x y w) :
    (w.cell? ⟨w0.heap.size, 0, none⟩ = some (.int .i64 k) ∧ w.cell? ⟨w0.heap.size, 1, none⟩ = some (.int .i64 l) ∧ w.cell? ⟨w0.heap.size, 2, none⟩ = some (.int .i64 v) ∧ w.cell? ⟨w0.heap.size, 3, none⟩ = some (.int .i64 b)) ∧
    (w.cell? ⟨w0.heap.size + 1, 0, none⟩ = some (.int .i64 a) ∧ w.cell? ⟨w0.heap.size + 1, 1, none⟩ = some (.int .i64 n) ∧ w.cell? ⟨w0.heap.size + 1, 2, none⟩ = some x ∧ w.cell? ⟨w0.heap.size + 1, 3, none⟩ = some y) ∧
    (w.cell? ⟨w0.heap.size + 1 + 1, 0, none⟩ = some (.int .i64 t) ∧ w.cell? ⟨w0.heap.size + 1 + 1, 1, none⟩ = some (.int .i64 m)) :=
  ⟨h.p.four, h.c.four, h.n.cell 0, h.n.cell 1⟩
theorem At0.two (h : At0 w0 k l v b a n t m x y w) (o o' : Obj) : At0 w0 k l v b a n t m x y ((w.alloc o).alloc o') :=
  (h.step ((Below.refl _ _).alloc (Nat.le_refl _) o)).step ((Below.refl _ _).alloc (Nat.le_refl _) o')
end
/-- What both asks told lies in memory, alike. -/
structure Two (T H : Int) (xn : Nat) (f : Nat → Int) (yn : Nat) (g1 g2 : Nat → Int) (al : Bool) (rm rt rs : Int) (da db ea eb : Option Addr) (dc dd ec ed : Nat) (p q : Nat) (w : World) : Prop where
  c1 : Has w p 27 [.int .i64 T, .int .i64 H, .slice da xn dc, .slice ea yn ec]
  v1 : Has w (p + 1) 32 [.bool al, .int .i64 rm, .int .i64 rt, .int .i64 rs]
  c2 : Has w q 27 [.int .i64 T, .int .i64 H, .slice db xn dd, .slice eb yn ed]
  v2 : Has w (q + 1) 32 [.bool al, .int .i64 rm, .int .i64 rt, .int .i64 rs]
  s1 : SumsAt w da xn f
  s2 : SumsAt w db xn f
  h1 : HitsAt w ea yn g1 g2
  h2 : HitsAt w eb yn g1 g2
theorem below_two (w : World) (o o' : Obj) : Below w.heap.size w ((w.alloc o).alloc o') := ((Below.refl _ _).alloc (Nat.le_refl _) _).alloc (by simp) _
section
variable {T H : Int} {xn : Nat} {f : Nat → Int} {yn : Nat} {g1 g2 : Nat → Int} {al : Bool} {rm rt rs : Int} {da db ea eb : Option Addr} {dc dd ec ed : Nat} {p q : Nat} {w0 w w' : World} {k l v b a n t m : Int} {x y : Value}
theorem Two.step (h : Two T H xn f yn g1 g2 al rm rt rs da db ea eb dc dd ec ed p q w) (hb : Below w.heap.size w w') : Two T H xn f yn g1 g2 al rm rt rs da db ea eb dc dd ec ed p q w' :=
  ⟨h.c1.step hb, h.v1.step hb, h.c2.step hb, h.v2.step hb, h.s1.below hb, h.s2.below hb, h.h1.below hb, h.h2.below hb⟩
/-- All of it. -/
structure At (w0 : World) (k l v b a n t m : Int) (x y : Value) (T H : Int) (xn : Nat) (f : Nat → Int) (yn : Nat) (g1 g2 : Nat → Int) (al : Bool) (rm rt rs : Int) (da db ea eb : Option Addr) (dc dd ec ed : Nat) (p q : Nat) (w : World) : Prop where
  a0 : At0 w0 k l v b a n t m x y w
  tw : Two T H xn f yn g1 g2 al rm rt rs da db ea eb dc dd ec ed p q w
theorem At.step (h : At w0 k l v b a n t m x y T H xn f yn g1 g2 al rm rt rs da db ea eb dc dd ec ed p q w) (hb : Below w.heap.size w w') : At w0 k l v b a n t m x y T H xn f yn g1 g2 al rm rt rs da db ea eb dc dd ec ed p q w' := ⟨h.a0.step hb, h.tw.step hb⟩
theorem At.drew (h : At w0 k l v b a n t m x y T H xn f yn g1 g2 al rm rt rs da db ea eb dc dd ec ed p q w) : At w0 k l v b a n t m x y T H xn f yn g1 g2 al rm rt rs da db ea eb dc dd ec ed p q w.drew := h.step (Below.refl _ _).drew
theorem At.cells (h : At w0 k l v b a n t m x y T H xn f yn g1 g2 al rm rt rs da db ea eb dc dd ec ed p q w) : (w.cell? ⟨w0.heap.size, 0, none⟩ = some (.int .i64 k) ∧ w.cell? ⟨w0.heap.size, 1, none⟩ = some (.int .i64 l) ∧ w.cell? ⟨w0.heap.size, 2, none⟩ = some (.int .i64 v) ∧ w.cell? ⟨w0.heap.size, 3, none⟩ = some (.int .i64 b)) ∧ (w.cell? ⟨w0.heap.size + 1, 0, none⟩ = some (.int .i64 a) ∧ w.cell? ⟨w0.heap.size + 1, 1, none⟩ = some (.int .i64 n) ∧ w.cell? ⟨w0.heap.size + 1, 2, none⟩ = some (x) ∧ w.cell? ⟨w0.heap.size + 1, 3, none⟩ = some (y)) ∧ (w.cell? ⟨w0.heap.size + 1 + 1, 0, none⟩ = some (.int .i64 t) ∧ w.cell? ⟨w0.heap.size + 1 + 1, 1, none⟩ = some (.int .i64 m)) ∧ (w.cell? ⟨p, 0, none⟩ = some (.int .i64 T) ∧ w.cell? ⟨p, 1, none⟩ = some (.int .i64 H) ∧ w.cell? ⟨p, 2, none⟩ = some (.slice da xn dc) ∧ w.cell? ⟨p, 3, none⟩ = some (.slice ea yn ec)) ∧ (w.cell? ⟨p + 1, 0, none⟩ = some (.bool al) ∧ w.cell? ⟨p + 1, 1, none⟩ = some (.int .i64 rm) ∧ w.cell? ⟨p + 1, 2, none⟩ = some (.int .i64 rt) ∧ w.cell? ⟨p + 1, 3, none⟩ = some (.int .i64 rs)) ∧ (w.cell? ⟨q, 0, none⟩ = some (.int .i64 T) ∧ w.cell? ⟨q, 1, none⟩ = some (.int .i64 H) ∧ w.cell? ⟨q, 2, none⟩ = some (.slice db xn dd) ∧ w.cell? ⟨q, 3, none⟩ = some (.slice eb yn ed)) ∧ (w.cell? ⟨q + 1, 0, none⟩ = some (.bool al) ∧ w.cell? ⟨q + 1, 1, none⟩ = some (.int .i64 rm) ∧ w.cell? ⟨q + 1, 2, none⟩ = some (.int .i64 rt) ∧ w.cell? ⟨q + 1, 3, none⟩ = some (.int .i64 rs)) :=
  ⟨h.a0.p.four, h.a0.c.four, ⟨h.a0.n.cell 0, h.a0.n.cell 1⟩, h.tw.c1.four, h.tw.v1.four, h.tw.c2.four, h.tw.v2.four⟩
end

set_option maxRecDepth 100000 in
set_option maxHeartbeats 4000000 in
theorem few_no (k l v b a n t m : Int) (sa ha : Option Addr) (sn sc hn hc : Nat) (W : World) (h : ¬ (sn ≤ 40 ∧ hn ≤ 40)) (q1 : sn ≤ maxLen) (q2 : hn ≤ maxLen) : Calls Try.prog 3 #[.agg #[.int .i64 k, .int .i64 l, .int .i64 v, .int .i64 b], .agg #[.int .i64 a, .int .i64 n, .slice sa sn sc, .slice ha hn hc], .agg #[.int .i64 t, .int .i64 m]] W fun e w' => e = .returned (.bool true) ∧ Below W.heap.size W w' := by
  have FW := Lib.hid (fun u => Few_no a n sa ha sn sc hn hc u h q1 q2)
  have A0 := Lib.hid (At0.made W k l v b a n t m (.slice sa sn sc) (.slice ha hn hc))
  clear h q1 q2
  go_enter Try.func3, Try.ntmps3
  go_wp2_with fail
  refine (FW.out _).mono ?_; rintro e w1 ⟨rfl, hb⟩
  have A1 := Lib.hid (A0.out.step hb)
  clear hb A0
  go_wp2_with fail
  refine (live_any _).mono ?_; rintro e wl ⟨rfl, hb⟩
  have AL := Lib.hid (A1.out.step hb)
  clear hb
  go_wp2_with fail
  go_ret
  exact ⟨rfl, AL.out.be⟩

set_option maxRecDepth 100000 in
set_option maxHeartbeats 4000000 in
theorem few_yes (k l v b a n t m : Int) (sa ha : Option Addr) (sn sc hn hc : Nat) (W : World) (f1 : sn ≤ 40) (f2 : hn ≤ 40) (T H : Int) (xn : Nat) (f : Nat → Int) (yn : Nat) (g1 g2 : Nat → Int) (al : Bool) (rm rt rs : Int) (mr : Bool) (lr er : Int) (x1 : xn ≤ 40) (x2 : yn ≤ 40)
    (K1 : ∀ u, Below W.heap.size W u → Calls Try.prog 10 #[.agg #[.int .i64 k, .int .i64 l, .int .i64 v, .int .i64 b], .agg #[.int .i64 a, .int .i64 n, .slice sa sn sc, .slice ha hn hc], .int .i64 t, .int .i64 m] u (Tells T H xn f yn g1 g2 al rm rt rs u)) (K2 : ∀ u, Below W.heap.size W u → Calls Try.prog 11 #[.agg #[.int .i64 k, .int .i64 l, .int .i64 v, .int .i64 b], .agg #[.int .i64 a, .int .i64 n, .slice sa sn sc, .slice ha hn hc], .int .i64 t, .int .i64 m] u (Tells T H xn f yn g1 g2 al rm rt rs u))
    (M1 : ∀ u, Below W.heap.size W u → Calls Try.prog 13 #[.agg #[.int .i64 k, .int .i64 l, .int .i64 v, .int .i64 b], .agg #[.int .i64 a, .int .i64 n, .slice sa sn sc, .slice ha hn hc]] u fun e w' => e = .returned (.bool mr) ∧ Below u.heap.size u w') (M2 : ∀ u, Below W.heap.size W u → Calls Try.prog 14 #[.agg #[.int .i64 k, .int .i64 l, .int .i64 v, .int .i64 b], .agg #[.int .i64 a, .int .i64 n, .slice sa sn sc, .slice ha hn hc]] u fun e w' => e = .returned (.bool mr) ∧ Below u.heap.size u w')
    (L1 : ∀ u, Below W.heap.size W u → Calls Try.prog 15 #[.agg #[.int .i64 k, .int .i64 l, .int .i64 v, .int .i64 b], .agg #[.int .i64 a, .int .i64 n, .slice sa sn sc, .slice ha hn hc], .int .i64 t] u fun e w' => e = .returned (.int .i64 lr) ∧ Below u.heap.size u w') (L2 : ∀ u, Below W.heap.size W u → Calls Try.prog 16 #[.agg #[.int .i64 k, .int .i64 l, .int .i64 v, .int .i64 b], .agg #[.int .i64 a, .int .i64 n, .slice sa sn sc, .slice ha hn hc], .int .i64 t] u fun e w' => e = .returned (.int .i64 lr) ∧ Below u.heap.size u w')
    (E1 : ∀ u, Below W.heap.size W u → Calls Try.prog 17 #[.agg #[.int .i64 k, .int .i64 l, .int .i64 v, .int .i64 b], .agg #[.int .i64 a, .int .i64 n, .slice sa sn sc, .slice ha hn hc]] u fun e w' => e = .returned (.int .i64 er) ∧ Below u.heap.size u w') (E2 : ∀ u, Below W.heap.size W u → Calls Try.prog 18 #[.agg #[.int .i64 k, .int .i64 l, .int .i64 v, .int .i64 b], .agg #[.int .i64 a, .int .i64 n, .slice sa sn sc, .slice ha hn hc]] u fun e w' => e = .returned (.int .i64 er) ∧ Below u.heap.size u w') : Calls Try.prog 3 #[.agg #[.int .i64 k, .int .i64 l, .int .i64 v, .int .i64 b], .agg #[.int .i64 a, .int .i64 n, .slice sa sn sc, .slice ha hn hc], .agg #[.int .i64 t, .int .i64 m]] W fun e w' => e = .returned (.bool true) ∧ Below W.heap.size W w' := by
  have FW := Lib.hid (fun u => Few_yes a n sa ha sn sc hn hc u f1 f2)
  replace M1 := Lib.hid M1
  replace M2 := Lib.hid M2
  replace L1 := Lib.hid L1
  replace L2 := Lib.hid L2
  replace E1 := Lib.hid E1
  replace E2 := Lib.hid E2
  replace K1 := Lib.hid K1
  replace K2 := Lib.hid K2
  have A0 := Lib.hid (At0.made W k l v b a n t m (.slice sa sn sc) (.slice ha hn hc))
  clear f1 f2
  go_enter Try.func3, Try.ntmps3
  go_wp2_with fail
  refine (FW.out _).mono ?_; rintro e w1 ⟨rfl, hb⟩
  have A1 := Lib.hid (A0.out.step hb)
  clear hb A0
  obtain ⟨⟨j0, j1, j2, j3⟩, ⟨j4, j5, j6, j7⟩, j8, j9⟩ := A1.out.cells
  go_wp2_with fail
  refine (K1.out _ A1.out.be).mono ?_; rintro e w2 ⟨da, ea, dc, ec, rfl, hs1, hh1, hb⟩
  clear j0 j1 j2 j3 j4 j5 j6 j7 j8 j9
  have A2 := Lib.hid ((A1.out.step hb).two (.cells #[.int .i64 T, .int .i64 H, .slice da xn dc, .slice ea yn ec] 27) (.cells #[.bool al, .int .i64 rm, .int .i64 rt, .int .i64 rs] 32))
  have c2 := Lib.hid (made1 w2 27 [.int .i64 T, .int .i64 H, .slice da xn dc, .slice ea yn ec] (.cells #[.bool al, .int .i64 rm, .int .i64 rt, .int .i64 rs] 32))
  have u2 := Lib.hid (made2 w2 32 27 [.bool al, .int .i64 rm, .int .i64 rt, .int .i64 rs] (.cells #[.int .i64 T, .int .i64 H, .slice da xn dc, .slice ea yn ec] 27))
  have S1 := Lib.hid (hs1.below (below_two w2 (.cells #[.int .i64 T, .int .i64 H, .slice da xn dc, .slice ea yn ec] 27) (.cells #[.bool al, .int .i64 rm, .int .i64 rt, .int .i64 rs] 32)))
  have H1 := Lib.hid (hh1.below (below_two w2 (.cells #[.int .i64 T, .int .i64 H, .slice da xn dc, .slice ea yn ec] 27) (.cells #[.bool al, .int .i64 rm, .int .i64 rt, .int .i64 rs] 32)))
  clear hb A1 hs1 hh1
  obtain ⟨⟨j0, j1, j2, j3⟩, ⟨j4, j5, j6, j7⟩, j8, j9⟩ := A2.out.cells
  go_wp2_with fail
  refine (K2.out _ A2.out.be).mono ?_; rintro e w3 ⟨db, eb, dd, ed, rfl, hs2, hh2, hb⟩
  clear j0 j1 j2 j3 j4 j5 j6 j7 j8 j9
  have hz : At W k l v b a n t m (.slice sa sn sc) (.slice ha hn hc) T H xn f yn g1 g2 al rm rt rs da db ea eb dc dd ec ed w2.heap.size w3.heap.size ((w3.alloc (.cells #[.int .i64 T, .int .i64 H, .slice db xn dd, .slice eb yn ed] 27)).alloc (.cells #[.bool al, .int .i64 rm, .int .i64 rt, .int .i64 rs] 32)) := by
    have q := (A2.out.step hb).two (.cells #[.int .i64 T, .int .i64 H, .slice db xn dd, .slice eb yn ed] 27) (.cells #[.bool al, .int .i64 rm, .int .i64 rt, .int .i64 rs] 32)
    have b2 := below_two w3 (.cells #[.int .i64 T, .int .i64 H, .slice db xn dd, .slice eb yn ed] 27) (.cells #[.bool al, .int .i64 rm, .int .i64 rt, .int .i64 rs] 32)
    exact ⟨q, ((c2.out.step hb).alloc _).alloc _, ((u2.out.step hb).alloc _).alloc _, made1 w3 27 [.int .i64 T, .int .i64 H, .slice db xn dd, .slice eb yn ed] (.cells #[.bool al, .int .i64 rm, .int .i64 rt, .int .i64 rs] 32), made2 w3 32 27 [.bool al, .int .i64 rm, .int .i64 rt, .int .i64 rs] (.cells #[.int .i64 T, .int .i64 H, .slice db xn dd, .slice eb yn ed] 27), (S1.out.below hb).below b2, hs2.below b2, (H1.out.below hb).below b2, hh2.below b2⟩
  clear hb A2 c2 u2 S1 H1 hs2 hh2
  go_wp2_with fail
  generalize (w3.alloc (.cells #[.int .i64 T, .int .i64 H, .slice db xn dd, .slice eb yn ed] 27)).alloc (.cells #[.bool al, .int .i64 rm, .int .i64 rt, .int .i64 rs] 32) = wz at hz ⊢
  generalize w2.heap.size = p at hz ⊢
  generalize w3.heap.size = q at hz ⊢
  have AZ := Lib.hid hz
  clear hz
  go_region_held3 (fun w' => (w'.cell? ⟨W.heap.size, 0, none⟩ = some (.int .i64 k) ∧ w'.cell? ⟨W.heap.size, 1, none⟩ = some (.int .i64 l) ∧ w'.cell? ⟨W.heap.size, 2, none⟩ = some (.int .i64 v) ∧ w'.cell? ⟨W.heap.size, 3, none⟩ = some (.int .i64 b)) ∧ (w'.cell? ⟨W.heap.size + 1, 0, none⟩ = some (.int .i64 a) ∧ w'.cell? ⟨W.heap.size + 1, 1, none⟩ = some (.int .i64 n) ∧ w'.cell? ⟨W.heap.size + 1, 2, none⟩ = some (.slice sa sn sc) ∧ w'.cell? ⟨W.heap.size + 1, 3, none⟩ = some (.slice ha hn hc)) ∧ (w'.cell? ⟨W.heap.size + 1 + 1, 0, none⟩ = some (.int .i64 t) ∧ w'.cell? ⟨W.heap.size + 1 + 1, 1, none⟩ = some (.int .i64 m)) ∧ (w'.cell? ⟨p, 0, none⟩ = some (.int .i64 T) ∧ w'.cell? ⟨p, 1, none⟩ = some (.int .i64 H) ∧ w'.cell? ⟨p, 2, none⟩ = some (.slice da xn dc) ∧ w'.cell? ⟨p, 3, none⟩ = some (.slice ea yn ec)) ∧ (w'.cell? ⟨p + 1, 0, none⟩ = some (.bool al) ∧ w'.cell? ⟨p + 1, 1, none⟩ = some (.int .i64 rm) ∧ w'.cell? ⟨p + 1, 2, none⟩ = some (.int .i64 rt) ∧ w'.cell? ⟨p + 1, 3, none⟩ = some (.int .i64 rs)) ∧ (w'.cell? ⟨q, 0, none⟩ = some (.int .i64 T) ∧ w'.cell? ⟨q, 1, none⟩ = some (.int .i64 H) ∧ w'.cell? ⟨q, 2, none⟩ = some (.slice db xn dd) ∧ w'.cell? ⟨q, 3, none⟩ = some (.slice eb yn ed)) ∧ (w'.cell? ⟨q + 1, 0, none⟩ = some (.bool al) ∧ w'.cell? ⟨q + 1, 1, none⟩ = some (.int .i64 rm) ∧ w'.cell? ⟨q + 1, 2, none⟩ = some (.int .i64 rt) ∧ w'.cell? ⟨q + 1, 3, none⟩ = some (.int .i64 rs))) (first | (with_reducible exact AZ.out.cells) | (with_reducible exact AZ.out.drew.cells) | (with_reducible exact A11.out.cells) | (with_reducible exact A12.out.cells) | (with_reducible exact A13.out.cells) | (with_reducible exact A14.out.cells) | (with_reducible exact A15.out.cells) | (with_reducible exact A16.out.cells) | (with_reducible exact A17.out.cells) | (with_reducible exact A18.out.cells) | go_keep) (first | (go_at_call 12; (with_reducible refine (Same_eq T H da db ea eb xn dc dd yn ec ed f g1 g2 _ AZ.out.drew.tw.s1 AZ.out.drew.tw.s2 AZ.out.drew.tw.h1 AZ.out.drew.tw.h2 x1 x2).mono ?_); rintro e wa ⟨rfl, hb⟩; have A11 := Lib.hid ((AZ.out.drew).step hb); clear hb) | (go_at_call 13; (with_reducible refine (M1.out _ A11.out.a0.be).mono ?_); rintro e wb ⟨rfl, hb⟩; have A12 := Lib.hid ((A11.out).step hb); clear hb) | (go_at_call 14; (with_reducible refine (M2.out _ A12.out.a0.be).mono ?_); rintro e wc ⟨rfl, hb⟩; have A13 := Lib.hid ((A12.out).step hb); clear hb) | (go_at_call 15; (with_reducible refine (L1.out _ A13.out.a0.be).mono ?_); rintro e wd ⟨rfl, hb⟩; have A14 := Lib.hid ((A13.out).step hb); clear hb) | (go_at_call 16; (with_reducible refine (L2.out _ A14.out.a0.be).mono ?_); rintro e we ⟨rfl, hb⟩; have A15 := Lib.hid ((A14.out).step hb); clear hb) | (go_at_call 17; (with_reducible refine (E1.out _ A15.out.a0.be).mono ?_); rintro e wf ⟨rfl, hb⟩; have A16 := Lib.hid ((A15.out).step hb); clear hb) | (go_at_call 18; (with_reducible refine (E2.out _ A16.out.a0.be).mono ?_); rintro e wg ⟨rfl, hb⟩; have A17 := Lib.hid ((A16.out).step hb); clear hb) | (go_at_call 9; (with_reducible refine (live_any _).mono ?_); rintro e wh ⟨rfl, hb⟩; have A18 := Lib.hid ((A17.out).step hb); clear hb))
  all_goals (go_wp2_with fail; go_ret; exact ⟨rfl, A18.out.a0.be⟩)
end Go.Proofs.Ytgdcgilhaedbmaa.exactAsks
