/- Two answers compared, by the program. -/
import Derived.Test.YtljllfopgpmekabSa0
-- prune
namespace Go.Proofs.Ytljllfopgpmekab
open Go.ChangeShapes Go.WideShapes Go.ChangeAt Go.RowKit
set_option linter.unusedVariables false

theorem pol_same (k l v b : Int) (u : World) : (Op.equalIn 10000 24 (.agg #[.int .i64 k, .int .i64 l, .int .i64 v, .int .i64 b]) (.agg #[.int .i64 k, .int .i64 l, .int .i64 v, .int .i64 b])).run Try.prog u = .ok true u := by
  go_simp
theorem pol_ne {k l v b k' l' v' b' : Int} (hn : ¬ (k = k' ∧ l = l' ∧ v = v' ∧ b = b')) (u : World) : (Op.equalIn 10000 24 (.agg #[.int .i64 k, .int .i64 l, .int .i64 v, .int .i64 b]) (.agg #[.int .i64 k', .int .i64 l', .int .i64 v', .int .i64 b'])).run Try.prog u = .ok false u := by
  go_simp
  by_cases h1 : k = k' <;> by_cases h2 : l = l' <;> by_cases h3 : v = v' <;> by_cases h4 : b = b' <;> simp_all
/-- Two structs of a call's own, side by side. -/
structure SW (C D : List Value) (T : TypeId) (w w1 : World) : Prop where
  x : Has w1 w.heap.size T C
  y : Has w1 (w.heap.size + 1) T D
  be : Below w.heap.size w w1
theorem SW.made (C D : List Value) (T : TypeId) (w : World) : SW C D T w ((w.alloc (.cells C.toArray T)).alloc (.cells D.toArray T)) := by
  refine ⟨(Has.made w T C).alloc _, ?_, ((Below.refl _ _).alloc (Nat.le_refl _) _).alloc (by simp) _⟩
  have := Has.made (w.alloc (.cells C.toArray T)) T D
  rwa [show (w.alloc (.cells C.toArray T)).heap.size = w.heap.size + 1 by simp] at this
theorem SW.drewN {C D : List Value} {T : TypeId} {w w1 : World} (h : SW C D T w w1) (m : Nat) : SW C D T w (w1.drewN m) := ⟨h.x.drewN m, h.y.drewN m, ⟨h.be.os, h.be.tape, h.be.output, h.be.size, h.be.block⟩⟩

set_option maxRecDepth 100000 in
theorem same_0 (a b : An) (v v' : Value) (w : World) (ha : IsAn w v a) (hb : IsAn w v' b) (la : a.told.length ≤ 1000 ∧ a.names.length ≤ 1000) (h0 : (a.kind == b.kind) = false) :
    Calls Try.prog 45 #[v, v'] w fun e w' => e = .returned (.bool false) ∧ Below w.heap.size w w' := by
  obtain ⟨A, ca, N, cn, rfl, ha⟩ := ha
  obtain ⟨A', ca', N', cn', rfl, hb⟩ := hb
  have HA := Lib.hid ha
  have HB := Lib.hid hb
  have LA := Lib.hid la
  have X0 := Lib.hid (SW.made (anC a A ca N cn) (anC b A' ca' N' cn') 43 w)
  clear ha hb la 
  obtain ⟨W0, hW0⟩ : ∃ W0, W0 = (w.alloc (.cells (anC a A ca N cn).toArray 43)).alloc (.cells (anC b A' ca' N' cn').toArray 43) := ⟨_, rfl⟩
  rw [← hW0] at X0
  have hW := hW0.symm
  unfold anC at hW
  clear hW0
  have x0 := X0.out.x.cell 0
  have x1 := X0.out.x.cell 1
  have x2 := X0.out.x.cell 2
  have x3 := X0.out.x.cell 3
  have x4 := X0.out.x.cell 4
  have x5 := X0.out.x.cell 5
  have x6 := X0.out.x.cell 6
  have x7 := X0.out.x.cell 7
  have x8 := X0.out.x.cell 8
  have x9 := X0.out.x.cell 9
  have x10 := X0.out.x.cell 10
  simp [anC] at x0 x1 x2 x3 x4 x5 x6 x7 x8 x9 x10
  have y0 := X0.out.y.cell 0
  have y1 := X0.out.y.cell 1
  have y2 := X0.out.y.cell 2
  have y3 := X0.out.y.cell 3
  have y4 := X0.out.y.cell 4
  have y5 := X0.out.y.cell 5
  have y6 := X0.out.y.cell 6
  have y7 := X0.out.y.cell 7
  have y8 := X0.out.y.cell 8
  have y9 := X0.out.y.cell 9
  have y10 := X0.out.y.cell 10
  simp [anC] at y0 y1 y2 y3 y4 y5 y6 y7 y8 y9 y10
  unfold anC
  go_enter Try.func45, Try.ntmps45
  go_wp2_with fail
  go_wp2
  go_ret
  exact ⟨rfl, X0.out.be⟩

set_option maxRecDepth 100000 in
theorem same_1 (a b : An) (v v' : Value) (w : World) (ha : IsAn w v a) (hb : IsAn w v' b) (la : a.told.length ≤ 1000 ∧ a.names.length ≤ 1000) (h0 : (a.kind == b.kind) = true) (h1 : (a.code == b.code) = false) :
    Calls Try.prog 45 #[v, v'] w fun e w' => e = .returned (.bool false) ∧ Below w.heap.size w w' := by
  obtain ⟨A, ca, N, cn, rfl, ha⟩ := ha
  obtain ⟨A', ca', N', cn', rfl, hb⟩ := hb
  have HA := Lib.hid ha
  have HB := Lib.hid hb
  have LA := Lib.hid la
  have X0 := Lib.hid (SW.made (anC a A ca N cn) (anC b A' ca' N' cn') 43 w)
  clear ha hb la 
  obtain ⟨W0, hW0⟩ : ∃ W0, W0 = (w.alloc (.cells (anC a A ca N cn).toArray 43)).alloc (.cells (anC b A' ca' N' cn').toArray 43) := ⟨_, rfl⟩
  rw [← hW0] at X0
  have hW := hW0.symm
  unfold anC at hW
  clear hW0
  have x0 := X0.out.x.cell 0
  have x1 := X0.out.x.cell 1
  have x2 := X0.out.x.cell 2
  have x3 := X0.out.x.cell 3
  have x4 := X0.out.x.cell 4
  have x5 := X0.out.x.cell 5
  have x6 := X0.out.x.cell 6
  have x7 := X0.out.x.cell 7
  have x8 := X0.out.x.cell 8
  have x9 := X0.out.x.cell 9
  have x10 := X0.out.x.cell 10
  simp [anC] at x0 x1 x2 x3 x4 x5 x6 x7 x8 x9 x10
  have y0 := X0.out.y.cell 0
  have y1 := X0.out.y.cell 1
  have y2 := X0.out.y.cell 2
  have y3 := X0.out.y.cell 3
  have y4 := X0.out.y.cell 4
  have y5 := X0.out.y.cell 5
  have y6 := X0.out.y.cell 6
  have y7 := X0.out.y.cell 7
  have y8 := X0.out.y.cell 8
  have y9 := X0.out.y.cell 9
  have y10 := X0.out.y.cell 10
  simp [anC] at y0 y1 y2 y3 y4 y5 y6 y7 y8 y9 y10
  unfold anC
  go_enter Try.func45, Try.ntmps45
  go_wp2_with fail
  go_wp2
  go_ret
  exact ⟨rfl, X0.out.be⟩

set_option maxRecDepth 100000 in
theorem same_2 (a b : An) (v v' : Value) (w : World) (ha : IsAn w v a) (hb : IsAn w v' b) (la : a.told.length ≤ 1000 ∧ a.names.length ≤ 1000) (h0 : (a.kind == b.kind) = true) (h1 : (a.code == b.code) = true) (e2 : ¬ a.told = b.told) :
    Calls Try.prog 45 #[v, v'] w fun e w' => e = .returned (.bool false) ∧ Below w.heap.size w w' := by
  obtain ⟨A, ca, N, cn, rfl, ha⟩ := ha
  obtain ⟨A', ca', N', cn', rfl, hb⟩ := hb
  have HA := Lib.hid ha
  have HB := Lib.hid hb
  have LA := Lib.hid la
  have X0 := Lib.hid (SW.made (anC a A ca N cn) (anC b A' ca' N' cn') 43 w)
  clear ha hb la
  obtain ⟨W0, hW0⟩ : ∃ W0, W0 = (w.alloc (.cells (anC a A ca N cn).toArray 43)).alloc (.cells (anC b A' ca' N' cn').toArray 43) := ⟨_, rfl⟩
  rw [← hW0] at X0
  have hW := hW0.symm
  unfold anC at hW
  clear hW0
  have x0 := X0.out.x.cell 0
  have x1 := X0.out.x.cell 1
  have x2 := X0.out.x.cell 2
  have x3 := X0.out.x.cell 3
  have x4 := X0.out.x.cell 4
  have x5 := X0.out.x.cell 5
  have x6 := X0.out.x.cell 6
  have x7 := X0.out.x.cell 7
  have x8 := X0.out.x.cell 8
  have x9 := X0.out.x.cell 9
  have x10 := X0.out.x.cell 10
  simp [anC] at x0 x1 x2 x3 x4 x5 x6 x7 x8 x9 x10
  have y0 := X0.out.y.cell 0
  have y1 := X0.out.y.cell 1
  have y2 := X0.out.y.cell 2
  have y3 := X0.out.y.cell 3
  have y4 := X0.out.y.cell 4
  have y5 := X0.out.y.cell 5
  have y6 := X0.out.y.cell 6
  have y7 := X0.out.y.cell 7
  have y8 := X0.out.y.cell 8
  have y9 := X0.out.y.cell 9
  have y10 := X0.out.y.cell 10
  simp [anC] at y0 y1 y2 y3 y4 y5 y6 y7 y8 y9 y10
  have E2 := Lib.hid e2
  clear e2
  unfold anC
  go_enter Try.func45, Try.ntmps45
  go_wp2_with fail
  refine (eqTold_any A A' ca ca' a.told b.told W0 (HA.out.ts.below ⟨X0.out.be.os, X0.out.be.tape, X0.out.be.output, X0.out.be.size, X0.out.be.block⟩) (HB.out.ts.below ⟨X0.out.be.os, X0.out.be.tape, X0.out.be.output, X0.out.be.size, X0.out.be.block⟩) LA.out.1 (Nat.le_trans HB.out.t1 HB.out.t2)).mono ?_
  rintro e W1 ⟨q, rfl, hq, m, rfl⟩
  obtain rfl : q = false := by cases q with | true => exact absurd (hq.1 rfl) E2.out | false => rfl
  clear hq x0 x1 x2 x3 x4 x5 x6 x7 x8 x9 x10 y0 y1 y2 y3 y4 y5 y6 y7 y8 y9 y10
  have X1 := Lib.hid (X0.out.drewN m)
  generalize W0.drewN m = W1 at X1 ⊢
  clear X0 hW
  have x0 := X1.out.x.cell 0
  have x1 := X1.out.x.cell 1
  have x2 := X1.out.x.cell 2
  have x3 := X1.out.x.cell 3
  have x4 := X1.out.x.cell 4
  have x5 := X1.out.x.cell 5
  have x6 := X1.out.x.cell 6
  have x7 := X1.out.x.cell 7
  have x8 := X1.out.x.cell 8
  have x9 := X1.out.x.cell 9
  have x10 := X1.out.x.cell 10
  simp [anC] at x0 x1 x2 x3 x4 x5 x6 x7 x8 x9 x10
  have y0 := X1.out.y.cell 0
  have y1 := X1.out.y.cell 1
  have y2 := X1.out.y.cell 2
  have y3 := X1.out.y.cell 3
  have y4 := X1.out.y.cell 4
  have y5 := X1.out.y.cell 5
  have y6 := X1.out.y.cell 6
  have y7 := X1.out.y.cell 7
  have y8 := X1.out.y.cell 8
  have y9 := X1.out.y.cell 9
  have y10 := X1.out.y.cell 10
  simp [anC] at y0 y1 y2 y3 y4 y5 y6 y7 y8 y9 y10
  go_wp2
  go_ret
  exact ⟨rfl, X1.out.be⟩

set_option maxRecDepth 100000 in
theorem same_3 (a b : An) (v v' : Value) (w : World) (ha : IsAn w v a) (hb : IsAn w v' b) (la : a.told.length ≤ 1000 ∧ a.names.length ≤ 1000) (h0 : (a.kind == b.kind) = true) (h1 : (a.code == b.code) = true) (h3 : (a.ver == b.ver) = false) (e2 : a.told = b.told) :
    Calls Try.prog 45 #[v, v'] w fun e w' => e = .returned (.bool false) ∧ Below w.heap.size w w' := by
  obtain ⟨A, ca, N, cn, rfl, ha⟩ := ha
  obtain ⟨A', ca', N', cn', rfl, hb⟩ := hb
  have HA := Lib.hid ha
  have HB := Lib.hid hb
  have LA := Lib.hid la
  have X0 := Lib.hid (SW.made (anC a A ca N cn) (anC b A' ca' N' cn') 43 w)
  clear ha hb la
  obtain ⟨W0, hW0⟩ : ∃ W0, W0 = (w.alloc (.cells (anC a A ca N cn).toArray 43)).alloc (.cells (anC b A' ca' N' cn').toArray 43) := ⟨_, rfl⟩
  rw [← hW0] at X0
  have hW := hW0.symm
  unfold anC at hW
  clear hW0
  have x0 := X0.out.x.cell 0
  have x1 := X0.out.x.cell 1
  have x2 := X0.out.x.cell 2
  have x3 := X0.out.x.cell 3
  have x4 := X0.out.x.cell 4
  have x5 := X0.out.x.cell 5
  have x6 := X0.out.x.cell 6
  have x7 := X0.out.x.cell 7
  have x8 := X0.out.x.cell 8
  have x9 := X0.out.x.cell 9
  have x10 := X0.out.x.cell 10
  simp [anC] at x0 x1 x2 x3 x4 x5 x6 x7 x8 x9 x10
  have y0 := X0.out.y.cell 0
  have y1 := X0.out.y.cell 1
  have y2 := X0.out.y.cell 2
  have y3 := X0.out.y.cell 3
  have y4 := X0.out.y.cell 4
  have y5 := X0.out.y.cell 5
  have y6 := X0.out.y.cell 6
  have y7 := X0.out.y.cell 7
  have y8 := X0.out.y.cell 8
  have y9 := X0.out.y.cell 9
  have y10 := X0.out.y.cell 10
  simp [anC] at y0 y1 y2 y3 y4 y5 y6 y7 y8 y9 y10
  have E2 := Lib.hid e2
  clear e2
  unfold anC
  go_enter Try.func45, Try.ntmps45
  go_wp2_with fail
  refine (eqTold_any A A' ca ca' a.told b.told W0 (HA.out.ts.below ⟨X0.out.be.os, X0.out.be.tape, X0.out.be.output, X0.out.be.size, X0.out.be.block⟩) (HB.out.ts.below ⟨X0.out.be.os, X0.out.be.tape, X0.out.be.output, X0.out.be.size, X0.out.be.block⟩) LA.out.1 (Nat.le_trans HB.out.t1 HB.out.t2)).mono ?_
  rintro e W1 ⟨q, rfl, hq, m, rfl⟩
  obtain rfl : q = true := by exact hq.2 E2.out
  clear hq x0 x1 x2 x3 x4 x5 x6 x7 x8 x9 x10 y0 y1 y2 y3 y4 y5 y6 y7 y8 y9 y10
  have X1 := Lib.hid (X0.out.drewN m)
  generalize W0.drewN m = W1 at X1 ⊢
  clear X0 hW
  have x0 := X1.out.x.cell 0
  have x1 := X1.out.x.cell 1
  have x2 := X1.out.x.cell 2
  have x3 := X1.out.x.cell 3
  have x4 := X1.out.x.cell 4
  have x5 := X1.out.x.cell 5
  have x6 := X1.out.x.cell 6
  have x7 := X1.out.x.cell 7
  have x8 := X1.out.x.cell 8
  have x9 := X1.out.x.cell 9
  have x10 := X1.out.x.cell 10
  simp [anC] at x0 x1 x2 x3 x4 x5 x6 x7 x8 x9 x10
  have y0 := X1.out.y.cell 0
  have y1 := X1.out.y.cell 1
  have y2 := X1.out.y.cell 2
  have y3 := X1.out.y.cell 3
  have y4 := X1.out.y.cell 4
  have y5 := X1.out.y.cell 5
  have y6 := X1.out.y.cell 6
  have y7 := X1.out.y.cell 7
  have y8 := X1.out.y.cell 8
  have y9 := X1.out.y.cell 9
  have y10 := X1.out.y.cell 10
  simp [anC] at y0 y1 y2 y3 y4 y5 y6 y7 y8 y9 y10
  go_wp2
  go_ret
  exact ⟨rfl, X1.out.be⟩

set_option maxRecDepth 100000 in
theorem same_4 (a b : An) (v v' : Value) (w : World) (ha : IsAn w v a) (hb : IsAn w v' b) (la : a.told.length ≤ 1000 ∧ a.names.length ≤ 1000) (h0 : (a.kind == b.kind) = true) (h1 : (a.code == b.code) = true) (h3 : (a.ver == b.ver) = true) (h4 : ∀ u : World, (Op.equalIn 10000 24 (.agg #[.int .i64 a.pk, .int .i64 a.pl, .int .i64 a.pw, .int .i64 a.pb]) (.agg #[.int .i64 b.pk, .int .i64 b.pl, .int .i64 b.pw, .int .i64 b.pb])).run Try.prog u = .ok false u) (e2 : a.told = b.told) :
    Calls Try.prog 45 #[v, v'] w fun e w' => e = .returned (.bool false) ∧ Below w.heap.size w w' := by
  obtain ⟨A, ca, N, cn, rfl, ha⟩ := ha
  obtain ⟨A', ca', N', cn', rfl, hb⟩ := hb
  have HA := Lib.hid ha
  have HB := Lib.hid hb
  have LA := Lib.hid la
  have X0 := Lib.hid (SW.made (anC a A ca N cn) (anC b A' ca' N' cn') 43 w)
  clear ha hb la
  obtain ⟨W0, hW0⟩ : ∃ W0, W0 = (w.alloc (.cells (anC a A ca N cn).toArray 43)).alloc (.cells (anC b A' ca' N' cn').toArray 43) := ⟨_, rfl⟩
  rw [← hW0] at X0
  have hW := hW0.symm
  unfold anC at hW
  clear hW0
  have x0 := X0.out.x.cell 0
  have x1 := X0.out.x.cell 1
  have x2 := X0.out.x.cell 2
  have x3 := X0.out.x.cell 3
  have x4 := X0.out.x.cell 4
  have x5 := X0.out.x.cell 5
  have x6 := X0.out.x.cell 6
  have x7 := X0.out.x.cell 7
  have x8 := X0.out.x.cell 8
  have x9 := X0.out.x.cell 9
  have x10 := X0.out.x.cell 10
  simp [anC] at x0 x1 x2 x3 x4 x5 x6 x7 x8 x9 x10
  have y0 := X0.out.y.cell 0
  have y1 := X0.out.y.cell 1
  have y2 := X0.out.y.cell 2
  have y3 := X0.out.y.cell 3
  have y4 := X0.out.y.cell 4
  have y5 := X0.out.y.cell 5
  have y6 := X0.out.y.cell 6
  have y7 := X0.out.y.cell 7
  have y8 := X0.out.y.cell 8
  have y9 := X0.out.y.cell 9
  have y10 := X0.out.y.cell 10
  simp [anC] at y0 y1 y2 y3 y4 y5 y6 y7 y8 y9 y10
  have E2 := Lib.hid e2
  clear e2
  unfold anC
  go_enter Try.func45, Try.ntmps45
  go_wp2_with fail
  refine (eqTold_any A A' ca ca' a.told b.told W0 (HA.out.ts.below ⟨X0.out.be.os, X0.out.be.tape, X0.out.be.output, X0.out.be.size, X0.out.be.block⟩) (HB.out.ts.below ⟨X0.out.be.os, X0.out.be.tape, X0.out.be.output, X0.out.be.size, X0.out.be.block⟩) LA.out.1 (Nat.le_trans HB.out.t1 HB.out.t2)).mono ?_
  rintro e W1 ⟨q, rfl, hq, m, rfl⟩
  obtain rfl : q = true := by exact hq.2 E2.out
  clear hq x0 x1 x2 x3 x4 x5 x6 x7 x8 x9 x10 y0 y1 y2 y3 y4 y5 y6 y7 y8 y9 y10
  have X1 := Lib.hid (X0.out.drewN m)
  generalize W0.drewN m = W1 at X1 ⊢
  clear X0 hW
  have x0 := X1.out.x.cell 0
  have x1 := X1.out.x.cell 1
  have x2 := X1.out.x.cell 2
  have x3 := X1.out.x.cell 3
  have x4 := X1.out.x.cell 4
  have x5 := X1.out.x.cell 5
  have x6 := X1.out.x.cell 6
  have x7 := X1.out.x.cell 7
  have x8 := X1.out.x.cell 8
  have x9 := X1.out.x.cell 9
  have x10 := X1.out.x.cell 10
  simp [anC] at x0 x1 x2 x3 x4 x5 x6 x7 x8 x9 x10
  have y0 := X1.out.y.cell 0
  have y1 := X1.out.y.cell 1
  have y2 := X1.out.y.cell 2
  have y3 := X1.out.y.cell 3
  have y4 := X1.out.y.cell 4
  have y5 := X1.out.y.cell 5
  have y6 := X1.out.y.cell 6
  have y7 := X1.out.y.cell 7
  have y8 := X1.out.y.cell 8
  have y9 := X1.out.y.cell 9
  have y10 := X1.out.y.cell 10
  simp [anC] at y0 y1 y2 y3 y4 y5 y6 y7 y8 y9 y10
  go_wp2
  go_ret
  exact ⟨rfl, X1.out.be⟩

set_option maxRecDepth 100000 in
theorem same_5 (a b : An) (v v' : Value) (w : World) (ha : IsAn w v a) (hb : IsAn w v' b) (la : a.told.length ≤ 1000 ∧ a.names.length ≤ 1000) (h0 : (a.kind == b.kind) = true) (h1 : (a.code == b.code) = true) (h3 : (a.ver == b.ver) = true) (h4 : ∀ u : World, (Op.equalIn 10000 24 (.agg #[.int .i64 a.pk, .int .i64 a.pl, .int .i64 a.pw, .int .i64 a.pb]) (.agg #[.int .i64 b.pk, .int .i64 b.pl, .int .i64 b.pw, .int .i64 b.pb])).run Try.prog u = .ok true u) (h5 : (a.now == b.now) = false) (e2 : a.told = b.told) :
    Calls Try.prog 45 #[v, v'] w fun e w' => e = .returned (.bool false) ∧ Below w.heap.size w w' := by
  obtain ⟨A, ca, N, cn, rfl, ha⟩ := ha
  obtain ⟨A', ca', N', cn', rfl, hb⟩ := hb
  have HA := Lib.hid ha
  have HB := Lib.hid hb
  have LA := Lib.hid la
  have X0 := Lib.hid (SW.made (anC a A ca N cn) (anC b A' ca' N' cn') 43 w)
  clear ha hb la
  obtain ⟨W0, hW0⟩ : ∃ W0, W0 = (w.alloc (.cells (anC a A ca N cn).toArray 43)).alloc (.cells (anC b A' ca' N' cn').toArray 43) := ⟨_, rfl⟩
  rw [← hW0] at X0
  have hW := hW0.symm
  unfold anC at hW
  clear hW0
  have x0 := X0.out.x.cell 0
  have x1 := X0.out.x.cell 1
  have x2 := X0.out.x.cell 2
  have x3 := X0.out.x.cell 3
  have x4 := X0.out.x.cell 4
  have x5 := X0.out.x.cell 5
  have x6 := X0.out.x.cell 6
  have x7 := X0.out.x.cell 7
  have x8 := X0.out.x.cell 8
  have x9 := X0.out.x.cell 9
  have x10 := X0.out.x.cell 10
  simp [anC] at x0 x1 x2 x3 x4 x5 x6 x7 x8 x9 x10
  have y0 := X0.out.y.cell 0
  have y1 := X0.out.y.cell 1
  have y2 := X0.out.y.cell 2
  have y3 := X0.out.y.cell 3
  have y4 := X0.out.y.cell 4
  have y5 := X0.out.y.cell 5
  have y6 := X0.out.y.cell 6
  have y7 := X0.out.y.cell 7
  have y8 := X0.out.y.cell 8
  have y9 := X0.out.y.cell 9
  have y10 := X0.out.y.cell 10
  simp [anC] at y0 y1 y2 y3 y4 y5 y6 y7 y8 y9 y10
  have E2 := Lib.hid e2
  clear e2
  unfold anC
  go_enter Try.func45, Try.ntmps45
  go_wp2_with fail
  refine (eqTold_any A A' ca ca' a.told b.told W0 (HA.out.ts.below ⟨X0.out.be.os, X0.out.be.tape, X0.out.be.output, X0.out.be.size, X0.out.be.block⟩) (HB.out.ts.below ⟨X0.out.be.os, X0.out.be.tape, X0.out.be.output, X0.out.be.size, X0.out.be.block⟩) LA.out.1 (Nat.le_trans HB.out.t1 HB.out.t2)).mono ?_
  rintro e W1 ⟨q, rfl, hq, m, rfl⟩
  obtain rfl : q = true := by exact hq.2 E2.out
  clear hq x0 x1 x2 x3 x4 x5 x6 x7 x8 x9 x10 y0 y1 y2 y3 y4 y5 y6 y7 y8 y9 y10
  have X1 := Lib.hid (X0.out.drewN m)
  generalize W0.drewN m = W1 at X1 ⊢
  clear X0 hW
  have x0 := X1.out.x.cell 0
  have x1 := X1.out.x.cell 1
  have x2 := X1.out.x.cell 2
  have x3 := X1.out.x.cell 3
  have x4 := X1.out.x.cell 4
  have x5 := X1.out.x.cell 5
  have x6 := X1.out.x.cell 6
  have x7 := X1.out.x.cell 7
  have x8 := X1.out.x.cell 8
  have x9 := X1.out.x.cell 9
  have x10 := X1.out.x.cell 10
  simp [anC] at x0 x1 x2 x3 x4 x5 x6 x7 x8 x9 x10
  have y0 := X1.out.y.cell 0
  have y1 := X1.out.y.cell 1
  have y2 := X1.out.y.cell 2
  have y3 := X1.out.y.cell 3
  have y4 := X1.out.y.cell 4
  have y5 := X1.out.y.cell 5
  have y6 := X1.out.y.cell 6
  have y7 := X1.out.y.cell 7
  have y8 := X1.out.y.cell 8
  have y9 := X1.out.y.cell 9
  have y10 := X1.out.y.cell 10
  simp [anC] at y0 y1 y2 y3 y4 y5 y6 y7 y8 y9 y10
  go_wp2
  go_ret
  exact ⟨rfl, X1.out.be⟩

set_option maxRecDepth 100000 in
theorem same_6 (a b : An) (v v' : Value) (w : World) (ha : IsAn w v a) (hb : IsAn w v' b) (la : a.told.length ≤ 1000 ∧ a.names.length ≤ 1000) (h0 : (a.kind == b.kind) = true) (h1 : (a.code == b.code) = true) (h3 : (a.ver == b.ver) = true) (h4 : ∀ u : World, (Op.equalIn 10000 24 (.agg #[.int .i64 a.pk, .int .i64 a.pl, .int .i64 a.pw, .int .i64 a.pb]) (.agg #[.int .i64 b.pk, .int .i64 b.pl, .int .i64 b.pw, .int .i64 b.pb])).run Try.prog u = .ok true u) (h5 : (a.now == b.now) = true) (h6 : (a.count == b.count) = false) (e2 : a.told = b.told) :
    Calls Try.prog 45 #[v, v'] w fun e w' => e = .returned (.bool false) ∧ Below w.heap.size w w' := by
  obtain ⟨A, ca, N, cn, rfl, ha⟩ := ha
  obtain ⟨A', ca', N', cn', rfl, hb⟩ := hb
  have HA := Lib.hid ha
  have HB := Lib.hid hb
  have LA := Lib.hid la
  have X0 := Lib.hid (SW.made (anC a A ca N cn) (anC b A' ca' N' cn') 43 w)
  clear ha hb la
  obtain ⟨W0, hW0⟩ : ∃ W0, W0 = (w.alloc (.cells (anC a A ca N cn).toArray 43)).alloc (.cells (anC b A' ca' N' cn').toArray 43) := ⟨_, rfl⟩
  rw [← hW0] at X0
  have hW := hW0.symm
  unfold anC at hW
  clear hW0
  have x0 := X0.out.x.cell 0
  have x1 := X0.out.x.cell 1
  have x2 := X0.out.x.cell 2
  have x3 := X0.out.x.cell 3
  have x4 := X0.out.x.cell 4
  have x5 := X0.out.x.cell 5
  have x6 := X0.out.x.cell 6
  have x7 := X0.out.x.cell 7
  have x8 := X0.out.x.cell 8
  have x9 := X0.out.x.cell 9
  have x10 := X0.out.x.cell 10
  simp [anC] at x0 x1 x2 x3 x4 x5 x6 x7 x8 x9 x10
  have y0 := X0.out.y.cell 0
  have y1 := X0.out.y.cell 1
  have y2 := X0.out.y.cell 2
  have y3 := X0.out.y.cell 3
  have y4 := X0.out.y.cell 4
  have y5 := X0.out.y.cell 5
  have y6 := X0.out.y.cell 6
  have y7 := X0.out.y.cell 7
  have y8 := X0.out.y.cell 8
  have y9 := X0.out.y.cell 9
  have y10 := X0.out.y.cell 10
  simp [anC] at y0 y1 y2 y3 y4 y5 y6 y7 y8 y9 y10
  have E2 := Lib.hid e2
  clear e2
  unfold anC
  go_enter Try.func45, Try.ntmps45
  go_wp2_with fail
  refine (eqTold_any A A' ca ca' a.told b.told W0 (HA.out.ts.below ⟨X0.out.be.os, X0.out.be.tape, X0.out.be.output, X0.out.be.size, X0.out.be.block⟩) (HB.out.ts.below ⟨X0.out.be.os, X0.out.be.tape, X0.out.be.output, X0.out.be.size, X0.out.be.block⟩) LA.out.1 (Nat.le_trans HB.out.t1 HB.out.t2)).mono ?_
  rintro e W1 ⟨q, rfl, hq, m, rfl⟩
  obtain rfl : q = true := by exact hq.2 E2.out
  clear hq x0 x1 x2 x3 x4 x5 x6 x7 x8 x9 x10 y0 y1 y2 y3 y4 y5 y6 y7 y8 y9 y10
  have X1 := Lib.hid (X0.out.drewN m)
  generalize W0.drewN m = W1 at X1 ⊢
  clear X0 hW
  have x0 := X1.out.x.cell 0
  have x1 := X1.out.x.cell 1
  have x2 := X1.out.x.cell 2
  have x3 := X1.out.x.cell 3
  have x4 := X1.out.x.cell 4
  have x5 := X1.out.x.cell 5
  have x6 := X1.out.x.cell 6
  have x7 := X1.out.x.cell 7
  have x8 := X1.out.x.cell 8
  have x9 := X1.out.x.cell 9
  have x10 := X1.out.x.cell 10
  simp [anC] at x0 x1 x2 x3 x4 x5 x6 x7 x8 x9 x10
  have y0 := X1.out.y.cell 0
  have y1 := X1.out.y.cell 1
  have y2 := X1.out.y.cell 2
  have y3 := X1.out.y.cell 3
  have y4 := X1.out.y.cell 4
  have y5 := X1.out.y.cell 5
  have y6 := X1.out.y.cell 6
  have y7 := X1.out.y.cell 7
  have y8 := X1.out.y.cell 8
  have y9 := X1.out.y.cell 9
  have y10 := X1.out.y.cell 10
  simp [anC] at y0 y1 y2 y3 y4 y5 y6 y7 y8 y9 y10
  go_wp2
  go_ret
  exact ⟨rfl, X1.out.be⟩

set_option maxRecDepth 100000 in
theorem same_7 (a b : An) (v v' : Value) (w : World) (ha : IsAn w v a) (hb : IsAn w v' b) (la : a.told.length ≤ 1000 ∧ a.names.length ≤ 1000) (h0 : (a.kind == b.kind) = true) (h1 : (a.code == b.code) = true) (h3 : (a.ver == b.ver) = true) (h4 : ∀ u : World, (Op.equalIn 10000 24 (.agg #[.int .i64 a.pk, .int .i64 a.pl, .int .i64 a.pw, .int .i64 a.pb]) (.agg #[.int .i64 b.pk, .int .i64 b.pl, .int .i64 b.pw, .int .i64 b.pb])).run Try.prog u = .ok true u) (h5 : (a.now == b.now) = true) (h6 : (a.count == b.count) = true) (e2 : a.told = b.told) (e7 : ¬ a.names = b.names) :
    Calls Try.prog 45 #[v, v'] w fun e w' => e = .returned (.bool false) ∧ Below w.heap.size w w' := by
  obtain ⟨A, ca, N, cn, rfl, ha⟩ := ha
  obtain ⟨A', ca', N', cn', rfl, hb⟩ := hb
  have HA := Lib.hid ha
  have HB := Lib.hid hb
  have LA := Lib.hid la
  have X0 := Lib.hid (SW.made (anC a A ca N cn) (anC b A' ca' N' cn') 43 w)
  clear ha hb la
  obtain ⟨W0, hW0⟩ : ∃ W0, W0 = (w.alloc (.cells (anC a A ca N cn).toArray 43)).alloc (.cells (anC b A' ca' N' cn').toArray 43) := ⟨_, rfl⟩
  rw [← hW0] at X0
  have hW := hW0.symm
  unfold anC at hW
  clear hW0
  have x0 := X0.out.x.cell 0
  have x1 := X0.out.x.cell 1
  have x2 := X0.out.x.cell 2
  have x3 := X0.out.x.cell 3
  have x4 := X0.out.x.cell 4
  have x5 := X0.out.x.cell 5
  have x6 := X0.out.x.cell 6
  have x7 := X0.out.x.cell 7
  have x8 := X0.out.x.cell 8
  have x9 := X0.out.x.cell 9
  have x10 := X0.out.x.cell 10
  simp [anC] at x0 x1 x2 x3 x4 x5 x6 x7 x8 x9 x10
  have y0 := X0.out.y.cell 0
  have y1 := X0.out.y.cell 1
  have y2 := X0.out.y.cell 2
  have y3 := X0.out.y.cell 3
  have y4 := X0.out.y.cell 4
  have y5 := X0.out.y.cell 5
  have y6 := X0.out.y.cell 6
  have y7 := X0.out.y.cell 7
  have y8 := X0.out.y.cell 8
  have y9 := X0.out.y.cell 9
  have y10 := X0.out.y.cell 10
  simp [anC] at y0 y1 y2 y3 y4 y5 y6 y7 y8 y9 y10
  have E2 := Lib.hid e2
  clear e2
  have E7 := Lib.hid e7
  clear e7
  unfold anC
  go_enter Try.func45, Try.ntmps45
  go_wp2_with fail
  refine (eqTold_any A A' ca ca' a.told b.told W0 (HA.out.ts.below ⟨X0.out.be.os, X0.out.be.tape, X0.out.be.output, X0.out.be.size, X0.out.be.block⟩) (HB.out.ts.below ⟨X0.out.be.os, X0.out.be.tape, X0.out.be.output, X0.out.be.size, X0.out.be.block⟩) LA.out.1 (Nat.le_trans HB.out.t1 HB.out.t2)).mono ?_
  rintro e W1 ⟨q, rfl, hq, m, rfl⟩
  obtain rfl : q = true := by exact hq.2 E2.out
  clear hq x0 x1 x2 x3 x4 x5 x6 x7 x8 x9 x10 y0 y1 y2 y3 y4 y5 y6 y7 y8 y9 y10
  have X1 := Lib.hid (X0.out.drewN m)
  generalize W0.drewN m = W1 at X1 ⊢
  clear X0 hW
  have x0 := X1.out.x.cell 0
  have x1 := X1.out.x.cell 1
  have x2 := X1.out.x.cell 2
  have x3 := X1.out.x.cell 3
  have x4 := X1.out.x.cell 4
  have x5 := X1.out.x.cell 5
  have x6 := X1.out.x.cell 6
  have x7 := X1.out.x.cell 7
  have x8 := X1.out.x.cell 8
  have x9 := X1.out.x.cell 9
  have x10 := X1.out.x.cell 10
  simp [anC] at x0 x1 x2 x3 x4 x5 x6 x7 x8 x9 x10
  have y0 := X1.out.y.cell 0
  have y1 := X1.out.y.cell 1
  have y2 := X1.out.y.cell 2
  have y3 := X1.out.y.cell 3
  have y4 := X1.out.y.cell 4
  have y5 := X1.out.y.cell 5
  have y6 := X1.out.y.cell 6
  have y7 := X1.out.y.cell 7
  have y8 := X1.out.y.cell 8
  have y9 := X1.out.y.cell 9
  have y10 := X1.out.y.cell 10
  simp [anC] at y0 y1 y2 y3 y4 y5 y6 y7 y8 y9 y10
  go_wp2_with fail
  refine (eqName_any N N' cn cn' a.names b.names W1 (HA.out.ns.below ⟨X1.out.be.os, X1.out.be.tape, X1.out.be.output, X1.out.be.size, X1.out.be.block⟩) (HB.out.ns.below ⟨X1.out.be.os, X1.out.be.tape, X1.out.be.output, X1.out.be.size, X1.out.be.block⟩) LA.out.2 (Nat.le_trans HB.out.n1 HB.out.n2)).mono ?_
  rintro e W2 ⟨q, rfl, hq, m, rfl⟩
  obtain rfl : q = false := by cases q with | true => exact absurd (hq.1 rfl) E7.out | false => rfl
  clear hq x0 x1 x2 x3 x4 x5 x6 x7 x8 x9 x10 y0 y1 y2 y3 y4 y5 y6 y7 y8 y9 y10
  have X2 := Lib.hid (X1.out.drewN m)
  generalize W1.drewN m = W2 at X2 ⊢
  clear X1
  go_wp2
  go_ret
  exact ⟨rfl, X2.out.be⟩

set_option maxRecDepth 100000 in
theorem same_8 (a b : An) (v v' : Value) (w : World) (ha : IsAn w v a) (hb : IsAn w v' b) (la : a.told.length ≤ 1000 ∧ a.names.length ≤ 1000) (h0 : (a.kind == b.kind) = true) (h1 : (a.code == b.code) = true) (h3 : (a.ver == b.ver) = true) (h4 : ∀ u : World, (Op.equalIn 10000 24 (.agg #[.int .i64 a.pk, .int .i64 a.pl, .int .i64 a.pw, .int .i64 a.pb]) (.agg #[.int .i64 b.pk, .int .i64 b.pl, .int .i64 b.pw, .int .i64 b.pb])).run Try.prog u = .ok true u) (h5 : (a.now == b.now) = true) (h6 : (a.count == b.count) = true) (e2 : a.told = b.told) (e7 : a.names = b.names) :
    Calls Try.prog 45 #[v, v'] w fun e w' => e = .returned (.bool true) ∧ Below w.heap.size w w' := by
  obtain ⟨A, ca, N, cn, rfl, ha⟩ := ha
  obtain ⟨A', ca', N', cn', rfl, hb⟩ := hb
  have HA := Lib.hid ha
  have HB := Lib.hid hb
  have LA := Lib.hid la
  have X0 := Lib.hid (SW.made (anC a A ca N cn) (anC b A' ca' N' cn') 43 w)
  clear ha hb la
  obtain ⟨W0, hW0⟩ : ∃ W0, W0 = (w.alloc (.cells (anC a A ca N cn).toArray 43)).alloc (.cells (anC b A' ca' N' cn').toArray 43) := ⟨_, rfl⟩
  rw [← hW0] at X0
  have hW := hW0.symm
  unfold anC at hW
  clear hW0
  have x0 := X0.out.x.cell 0
  have x1 := X0.out.x.cell 1
  have x2 := X0.out.x.cell 2
  have x3 := X0.out.x.cell 3
  have x4 := X0.out.x.cell 4
  have x5 := X0.out.x.cell 5
  have x6 := X0.out.x.cell 6
  have x7 := X0.out.x.cell 7
  have x8 := X0.out.x.cell 8
  have x9 := X0.out.x.cell 9
  have x10 := X0.out.x.cell 10
  simp [anC] at x0 x1 x2 x3 x4 x5 x6 x7 x8 x9 x10
  have y0 := X0.out.y.cell 0
  have y1 := X0.out.y.cell 1
  have y2 := X0.out.y.cell 2
  have y3 := X0.out.y.cell 3
  have y4 := X0.out.y.cell 4
  have y5 := X0.out.y.cell 5
  have y6 := X0.out.y.cell 6
  have y7 := X0.out.y.cell 7
  have y8 := X0.out.y.cell 8
  have y9 := X0.out.y.cell 9
  have y10 := X0.out.y.cell 10
  simp [anC] at y0 y1 y2 y3 y4 y5 y6 y7 y8 y9 y10
  have E2 := Lib.hid e2
  clear e2
  have E7 := Lib.hid e7
  clear e7
  unfold anC
  go_enter Try.func45, Try.ntmps45
  go_wp2_with fail
  refine (eqTold_any A A' ca ca' a.told b.told W0 (HA.out.ts.below ⟨X0.out.be.os, X0.out.be.tape, X0.out.be.output, X0.out.be.size, X0.out.be.block⟩) (HB.out.ts.below ⟨X0.out.be.os, X0.out.be.tape, X0.out.be.output, X0.out.be.size, X0.out.be.block⟩) LA.out.1 (Nat.le_trans HB.out.t1 HB.out.t2)).mono ?_
  rintro e W1 ⟨q, rfl, hq, m, rfl⟩
  obtain rfl : q = true := by exact hq.2 E2.out
  clear hq x0 x1 x2 x3 x4 x5 x6 x7 x8 x9 x10 y0 y1 y2 y3 y4 y5 y6 y7 y8 y9 y10
  have X1 := Lib.hid (X0.out.drewN m)
  generalize W0.drewN m = W1 at X1 ⊢
  clear X0 hW
  have x0 := X1.out.x.cell 0
  have x1 := X1.out.x.cell 1
  have x2 := X1.out.x.cell 2
  have x3 := X1.out.x.cell 3
  have x4 := X1.out.x.cell 4
  have x5 := X1.out.x.cell 5
  have x6 := X1.out.x.cell 6
  have x7 := X1.out.x.cell 7
  have x8 := X1.out.x.cell 8
  have x9 := X1.out.x.cell 9
  have x10 := X1.out.x.cell 10
  simp [anC] at x0 x1 x2 x3 x4 x5 x6 x7 x8 x9 x10
  have y0 := X1.out.y.cell 0
  have y1 := X1.out.y.cell 1
  have y2 := X1.out.y.cell 2
  have y3 := X1.out.y.cell 3
  have y4 := X1.out.y.cell 4
  have y5 := X1.out.y.cell 5
  have y6 := X1.out.y.cell 6
  have y7 := X1.out.y.cell 7
  have y8 := X1.out.y.cell 8
  have y9 := X1.out.y.cell 9
  have y10 := X1.out.y.cell 10
  simp [anC] at y0 y1 y2 y3 y4 y5 y6 y7 y8 y9 y10
  go_wp2_with fail
  refine (eqName_any N N' cn cn' a.names b.names W1 (HA.out.ns.below ⟨X1.out.be.os, X1.out.be.tape, X1.out.be.output, X1.out.be.size, X1.out.be.block⟩) (HB.out.ns.below ⟨X1.out.be.os, X1.out.be.tape, X1.out.be.output, X1.out.be.size, X1.out.be.block⟩) LA.out.2 (Nat.le_trans HB.out.n1 HB.out.n2)).mono ?_
  rintro e W2 ⟨q, rfl, hq, m, rfl⟩
  obtain rfl : q = true := by exact hq.2 E7.out
  clear hq x0 x1 x2 x3 x4 x5 x6 x7 x8 x9 x10 y0 y1 y2 y3 y4 y5 y6 y7 y8 y9 y10
  have X2 := Lib.hid (X1.out.drewN m)
  generalize W1.drewN m = W2 at X2 ⊢
  clear X1
  go_wp2
  go_ret
  exact ⟨rfl, X2.out.be⟩

/-- What the comparison of two answers tells. -/
theorem same_any (a b : An) (v v' : Value) (w : World) (ha : IsAn w v a) (hb : IsAn w v' b) (la : a.told.length ≤ 1000 ∧ a.names.length ≤ 1000) :
    Calls Try.prog 45 #[v, v'] w fun e w' => (∃ q : Bool, e = .returned (.bool q) ∧ (q = true ↔ a = b)) ∧ Below w.heap.size w w' := by
  have no : (∀ (e : Ending) (w' : World), (e = .returned (.bool false) ∧ Below w.heap.size w w') → ¬ a = b → (∃ q : Bool, e = .returned (.bool q) ∧ (q = true ↔ a = b)) ∧ Below w.heap.size w w') := by
    rintro e w' ⟨rfl, h⟩ hn
    exact ⟨⟨false, rfl, fun e => (by cases e), fun e => absurd e hn⟩, h⟩
  have t : ∀ {x y : Int}, x = y → (x == y) = true := fun h => by simp [h]
  have f : ∀ {x y : Int}, ¬ x = y → (x == y) = false := fun h => by simp [h]
  by_cases e0 : a.kind = b.kind
  case neg => exact (same_0 a b v v' w ha hb la (f e0)).mono fun e w' h => no e w' h (fun q => e0 (by rw [q]))
  by_cases e1 : a.code = b.code
  case neg => exact (same_1 a b v v' w ha hb la (t e0) (f e1)).mono fun e w' h => no e w' h (fun q => e1 (by rw [q]))
  by_cases e2 : a.told = b.told
  case neg => exact (same_2 a b v v' w ha hb la (t e0) (t e1) e2).mono fun e w' h => no e w' h (fun q => e2 (by rw [q]))
  by_cases e3 : a.ver = b.ver
  case neg => exact (same_3 a b v v' w ha hb la (t e0) (t e1) (f e3) e2).mono fun e w' h => no e w' h (fun q => e3 (by rw [q]))
  by_cases e4 : a.pk = b.pk ∧ a.pl = b.pl ∧ a.pw = b.pw ∧ a.pb = b.pb
  case neg => exact (same_4 a b v v' w ha hb la (t e0) (t e1) (t e3) (pol_ne e4) e2).mono fun e w' h => no e w' h (fun q => e4 (by rw [q]; exact ⟨rfl, rfl, rfl, rfl⟩))
  have hp : ∀ u : World, (Op.equalIn 10000 24 (.agg #[.int .i64 a.pk, .int .i64 a.pl, .int .i64 a.pw, .int .i64 a.pb]) (.agg #[.int .i64 b.pk, .int .i64 b.pl, .int .i64 b.pw, .int .i64 b.pb])).run Try.prog u = .ok true u := by
    rw [e4.1, e4.2.1, e4.2.2.1, e4.2.2.2]
    exact pol_same _ _ _ _
  by_cases e5 : a.now = b.now
  case neg => exact (same_5 a b v v' w ha hb la (t e0) (t e1) (t e3) hp (f e5) e2).mono fun e w' h => no e w' h (fun q => e5 (by rw [q]))
  by_cases e6 : a.count = b.count
  case neg => exact (same_6 a b v v' w ha hb la (t e0) (t e1) (t e3) hp (t e5) (f e6) e2).mono fun e w' h => no e w' h (fun q => e6 (by rw [q]))
  by_cases e7 : a.names = b.names
  case neg => exact (same_7 a b v v' w ha hb la (t e0) (t e1) (t e3) hp (t e5) (t e6) e2 e7).mono fun e w' h => no e w' h (fun q => e7 (by rw [q]))
  refine (same_8 a b v v' w ha hb la (t e0) (t e1) (t e3) hp (t e5) (t e6) e2 e7).mono ?_
  rintro e w' ⟨rfl, h⟩
  refine ⟨⟨true, rfl, fun _ => ?_, fun _ => rfl⟩, h⟩
  obtain ⟨e4, e8, e9, e10⟩ := e4
  cases a; cases b
  simp only at e0 e1 e2 e3 e4 e5 e6 e7 e8 e9 e10
  subst e0 e1 e2 e3 e4 e5 e6 e7 e8 e9 e10
  rfl
end Go.Proofs.Ytljllfopgpmekab
