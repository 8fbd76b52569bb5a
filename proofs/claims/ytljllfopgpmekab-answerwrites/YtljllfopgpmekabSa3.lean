/- Two answers compared, by the document; whether an answer is short. -/
import Derived.Test.YtljllfopgpmekabSa1
-- prune
namespace Go.Proofs.Ytljllfopgpmekab
open Go.ChangeShapes Go.WideShapes Go.ChangeAt Go.RowKit
set_option linter.unusedVariables false

/-- What a comparison that makes memory tells. -/
def TellsM (p : Prop) (w : World) (e : Ending) (w' : World) : Prop := (∃ q : Bool, e = .returned (.bool q) ∧ (q = true ↔ p)) ∧ Below w.heap.size w w'

set_option maxRecDepth 100000 in
theorem rsame_0 (a b : An) (v v' : Value) (w : World) (ha : IsAn w v a) (hb : IsAn w v' b) (h0 : (a.kind != b.kind) = true) :
    Calls Try.prog 27 #[v, v'] w fun e w' => e = .returned (.bool false) ∧ Below w.heap.size w w' := by
  obtain ⟨A, ca, N, cn, rfl, ha⟩ := ha
  obtain ⟨A', ca', N', cn', rfl, hb⟩ := hb
  have HA := Lib.hid ha
  have HB := Lib.hid hb
  have bd : a.told.length ≤ maxLen ∧ b.told.length ≤ maxLen ∧ a.names.length ≤ maxLen ∧ b.names.length ≤ maxLen := ⟨Nat.le_trans ha.t1 ha.t2, Nat.le_trans hb.t1 hb.t2, Nat.le_trans ha.n1 ha.n2, Nat.le_trans hb.n1 hb.n2⟩
  unfold maxLen at bd
  obtain ⟨bd1, bd2, bd3, bd4⟩ := bd
  have X0 := Lib.hid (SW.made (anC a A ca N cn) (anC b A' ca' N' cn') 43 w)
  clear ha hb
  obtain ⟨W0, hW0⟩ : ∃ W0, W0 = (w.alloc (.cells (anC a A ca N cn).toArray 43)).alloc (.cells (anC b A' ca' N' cn').toArray 43) := ⟨_, rfl⟩
  rw [← hW0] at X0
  have hW := hW0.symm
  unfold anC at hW
  clear hW0
  have x0 := X0.out.x.cell 0
  have x1 := X0.out.x.cell 1
  have x2 := X0.out.x.cell 2
  have x3 := X0.out.x.cell 3
  have x4 := X0.out.x.cell 4
  have x5 := X0.out.x.cell 5
  have x6 := X0.out.x.cell 6
  have x7 := X0.out.x.cell 7
  have x8 := X0.out.x.cell 8
  have x9 := X0.out.x.cell 9
  have x10 := X0.out.x.cell 10
  simp [anC] at x0 x1 x2 x3 x4 x5 x6 x7 x8 x9 x10
  have y0 := X0.out.y.cell 0
  have y1 := X0.out.y.cell 1
  have y2 := X0.out.y.cell 2
  have y3 := X0.out.y.cell 3
  have y4 := X0.out.y.cell 4
  have y5 := X0.out.y.cell 5
  have y6 := X0.out.y.cell 6
  have y7 := X0.out.y.cell 7
  have y8 := X0.out.y.cell 8
  have y9 := X0.out.y.cell 9
  have y10 := X0.out.y.cell 10
  simp [anC] at y0 y1 y2 y3 y4 y5 y6 y7 y8 y9 y10
  unfold anC
  go_enter Try.func27, Try.ntmps27
  go_wp2
  go_ret
  exact ⟨rfl, X0.out.be⟩

set_option maxRecDepth 100000 in
theorem rsame_1 (a b : An) (v v' : Value) (w : World) (ha : IsAn w v a) (hb : IsAn w v' b) (h0 : (a.kind != b.kind) = false) (h1 : (a.code != b.code) = true) :
    Calls Try.prog 27 #[v, v'] w fun e w' => e = .returned (.bool false) ∧ Below w.heap.size w w' := by
  obtain ⟨A, ca, N, cn, rfl, ha⟩ := ha
  obtain ⟨A', ca', N', cn', rfl, hb⟩ := hb
  have HA := Lib.hid ha
  have HB := Lib.hid hb
  have bd : a.told.length ≤ maxLen ∧ b.told.length ≤ maxLen ∧ a.names.length ≤ maxLen ∧ b.names.length ≤ maxLen := ⟨Nat.le_trans ha.t1 ha.t2, Nat.le_trans hb.t1 hb.t2, Nat.le_trans ha.n1 ha.n2, Nat.le_trans hb.n1 hb.n2⟩
  unfold maxLen at bd
  obtain ⟨bd1, bd2, bd3, bd4⟩ := bd
  have X0 := Lib.hid (SW.made (anC a A ca N cn) (anC b A' ca' N' cn') 43 w)
  clear ha hb
  obtain ⟨W0, hW0⟩ : ∃ W0, W0 = (w.alloc (.cells (anC a A ca N cn).toArray 43)).alloc (.cells (anC b A' ca' N' cn').toArray 43) := ⟨_, rfl⟩
  rw [← hW0] at X0
  have hW := hW0.symm
  unfold anC at hW
  clear hW0
  have x0 := X0.out.x.cell 0
  have x1 := X0.out.x.cell 1
  have x2 := X0.out.x.cell 2
  have x3 := X0.out.x.cell 3
  have x4 := X0.out.x.cell 4
  have x5 := X0.out.x.cell 5
  have x6 := X0.out.x.cell 6
  have x7 := X0.out.x.cell 7
  have x8 := X0.out.x.cell 8
  have x9 := X0.out.x.cell 9
  have x10 := X0.out.x.cell 10
  simp [anC] at x0 x1 x2 x3 x4 x5 x6 x7 x8 x9 x10
  have y0 := X0.out.y.cell 0
  have y1 := X0.out.y.cell 1
  have y2 := X0.out.y.cell 2
  have y3 := X0.out.y.cell 3
  have y4 := X0.out.y.cell 4
  have y5 := X0.out.y.cell 5
  have y6 := X0.out.y.cell 6
  have y7 := X0.out.y.cell 7
  have y8 := X0.out.y.cell 8
  have y9 := X0.out.y.cell 9
  have y10 := X0.out.y.cell 10
  simp [anC] at y0 y1 y2 y3 y4 y5 y6 y7 y8 y9 y10
  unfold anC
  go_enter Try.func27, Try.ntmps27
  go_wp2
  go_ret
  exact ⟨rfl, X0.out.be⟩

set_option maxRecDepth 100000 in
theorem rsame_2 (a b : An) (v v' : Value) (w : World) (ha : IsAn w v a) (hb : IsAn w v' b) (h0 : (a.kind != b.kind) = false) (h1 : (a.code != b.code) = false) (h2 : (a.ver != b.ver) = true) :
    Calls Try.prog 27 #[v, v'] w fun e w' => e = .returned (.bool false) ∧ Below w.heap.size w w' := by
  obtain ⟨A, ca, N, cn, rfl, ha⟩ := ha
  obtain ⟨A', ca', N', cn', rfl, hb⟩ := hb
  have HA := Lib.hid ha
  have HB := Lib.hid hb
  have bd : a.told.length ≤ maxLen ∧ b.told.length ≤ maxLen ∧ a.names.length ≤ maxLen ∧ b.names.length ≤ maxLen := ⟨Nat.le_trans ha.t1 ha.t2, Nat.le_trans hb.t1 hb.t2, Nat.le_trans ha.n1 ha.n2, Nat.le_trans hb.n1 hb.n2⟩
  unfold maxLen at bd
  obtain ⟨bd1, bd2, bd3, bd4⟩ := bd
  have X0 := Lib.hid (SW.made (anC a A ca N cn) (anC b A' ca' N' cn') 43 w)
  clear ha hb
  obtain ⟨W0, hW0⟩ : ∃ W0, W0 = (w.alloc (.cells (anC a A ca N cn).toArray 43)).alloc (.cells (anC b A' ca' N' cn').toArray 43) := ⟨_, rfl⟩
  rw [← hW0] at X0
  have hW := hW0.symm
  unfold anC at hW
  clear hW0
  have x0 := X0.out.x.cell 0
  have x1 := X0.out.x.cell 1
  have x2 := X0.out.x.cell 2
  have x3 := X0.out.x.cell 3
  have x4 := X0.out.x.cell 4
  have x5 := X0.out.x.cell 5
  have x6 := X0.out.x.cell 6
  have x7 := X0.out.x.cell 7
  have x8 := X0.out.x.cell 8
  have x9 := X0.out.x.cell 9
  have x10 := X0.out.x.cell 10
  simp [anC] at x0 x1 x2 x3 x4 x5 x6 x7 x8 x9 x10
  have y0 := X0.out.y.cell 0
  have y1 := X0.out.y.cell 1
  have y2 := X0.out.y.cell 2
  have y3 := X0.out.y.cell 3
  have y4 := X0.out.y.cell 4
  have y5 := X0.out.y.cell 5
  have y6 := X0.out.y.cell 6
  have y7 := X0.out.y.cell 7
  have y8 := X0.out.y.cell 8
  have y9 := X0.out.y.cell 9
  have y10 := X0.out.y.cell 10
  simp [anC] at y0 y1 y2 y3 y4 y5 y6 y7 y8 y9 y10
  unfold anC
  go_enter Try.func27, Try.ntmps27
  go_wp2
  go_ret
  exact ⟨rfl, X0.out.be⟩

set_option maxRecDepth 100000 in
theorem rsame_3 (a b : An) (v v' : Value) (w : World) (ha : IsAn w v a) (hb : IsAn w v' b) (h0 : (a.kind != b.kind) = false) (h1 : (a.code != b.code) = false) (h2 : (a.ver != b.ver) = false) (h3 : ∀ u : World, (Op.equalIn 10000 24 (.agg #[.int .i64 a.pk, .int .i64 a.pl, .int .i64 a.pw, .int .i64 a.pb]) (.agg #[.int .i64 b.pk, .int .i64 b.pl, .int .i64 b.pw, .int .i64 b.pb])).run Try.prog u = .ok false u) :
    Calls Try.prog 27 #[v, v'] w fun e w' => e = .returned (.bool false) ∧ Below w.heap.size w w' := by
  obtain ⟨A, ca, N, cn, rfl, ha⟩ := ha
  obtain ⟨A', ca', N', cn', rfl, hb⟩ := hb
  have HA := Lib.hid ha
  have HB := Lib.hid hb
  have bd : a.told.length ≤ maxLen ∧ b.told.length ≤ maxLen ∧ a.names.length ≤ maxLen ∧ b.names.length ≤ maxLen := ⟨Nat.le_trans ha.t1 ha.t2, Nat.le_trans hb.t1 hb.t2, Nat.le_trans ha.n1 ha.n2, Nat.le_trans hb.n1 hb.n2⟩
  unfold maxLen at bd
  obtain ⟨bd1, bd2, bd3, bd4⟩ := bd
  have X0 := Lib.hid (SW.made (anC a A ca N cn) (anC b A' ca' N' cn') 43 w)
  clear ha hb
  obtain ⟨W0, hW0⟩ : ∃ W0, W0 = (w.alloc (.cells (anC a A ca N cn).toArray 43)).alloc (.cells (anC b A' ca' N' cn').toArray 43) := ⟨_, rfl⟩
  rw [← hW0] at X0
  have hW := hW0.symm
  unfold anC at hW
  clear hW0
  have x0 := X0.out.x.cell 0
  have x1 := X0.out.x.cell 1
  have x2 := X0.out.x.cell 2
  have x3 := X0.out.x.cell 3
  have x4 := X0.out.x.cell 4
  have x5 := X0.out.x.cell 5
  have x6 := X0.out.x.cell 6
  have x7 := X0.out.x.cell 7
  have x8 := X0.out.x.cell 8
  have x9 := X0.out.x.cell 9
  have x10 := X0.out.x.cell 10
  simp [anC] at x0 x1 x2 x3 x4 x5 x6 x7 x8 x9 x10
  have y0 := X0.out.y.cell 0
  have y1 := X0.out.y.cell 1
  have y2 := X0.out.y.cell 2
  have y3 := X0.out.y.cell 3
  have y4 := X0.out.y.cell 4
  have y5 := X0.out.y.cell 5
  have y6 := X0.out.y.cell 6
  have y7 := X0.out.y.cell 7
  have y8 := X0.out.y.cell 8
  have y9 := X0.out.y.cell 9
  have y10 := X0.out.y.cell 10
  simp [anC] at y0 y1 y2 y3 y4 y5 y6 y7 y8 y9 y10
  unfold anC
  go_enter Try.func27, Try.ntmps27
  go_wp2
  go_ret
  exact ⟨rfl, X0.out.be⟩

set_option maxRecDepth 100000 in
theorem rsame_4 (a b : An) (v v' : Value) (w : World) (ha : IsAn w v a) (hb : IsAn w v' b) (h0 : (a.kind != b.kind) = false) (h1 : (a.code != b.code) = false) (h2 : (a.ver != b.ver) = false) (h3 : ∀ u : World, (Op.equalIn 10000 24 (.agg #[.int .i64 a.pk, .int .i64 a.pl, .int .i64 a.pw, .int .i64 a.pb]) (.agg #[.int .i64 b.pk, .int .i64 b.pl, .int .i64 b.pw, .int .i64 b.pb])).run Try.prog u = .ok true u) (h4 : (a.now != b.now) = true) :
    Calls Try.prog 27 #[v, v'] w fun e w' => e = .returned (.bool false) ∧ Below w.heap.size w w' := by
  obtain ⟨A, ca, N, cn, rfl, ha⟩ := ha
  obtain ⟨A', ca', N', cn', rfl, hb⟩ := hb
  have HA := Lib.hid ha
  have HB := Lib.hid hb
  have bd : a.told.length ≤ maxLen ∧ b.told.length ≤ maxLen ∧ a.names.length ≤ maxLen ∧ b.names.length ≤ maxLen := ⟨Nat.le_trans ha.t1 ha.t2, Nat.le_trans hb.t1 hb.t2, Nat.le_trans ha.n1 ha.n2, Nat.le_trans hb.n1 hb.n2⟩
  unfold maxLen at bd
  obtain ⟨bd1, bd2, bd3, bd4⟩ := bd
  have X0 := Lib.hid (SW.made (anC a A ca N cn) (anC b A' ca' N' cn') 43 w)
  clear ha hb
  obtain ⟨W0, hW0⟩ : ∃ W0, W0 = (w.alloc (.cells (anC a A ca N cn).toArray 43)).alloc (.cells (anC b A' ca' N' cn').toArray 43) := ⟨_, rfl⟩
  rw [← hW0] at X0
  have hW := hW0.symm
  unfold anC at hW
  clear hW0
  have x0 := X0.out.x.cell 0
  have x1 := X0.out.x.cell 1
  have x2 := X0.out.x.cell 2
  have x3 := X0.out.x.cell 3
  have x4 := X0.out.x.cell 4
  have x5 := X0.out.x.cell 5
  have x6 := X0.out.x.cell 6
  have x7 := X0.out.x.cell 7
  have x8 := X0.out.x.cell 8
  have x9 := X0.out.x.cell 9
  have x10 := X0.out.x.cell 10
  simp [anC] at x0 x1 x2 x3 x4 x5 x6 x7 x8 x9 x10
  have y0 := X0.out.y.cell 0
  have y1 := X0.out.y.cell 1
  have y2 := X0.out.y.cell 2
  have y3 := X0.out.y.cell 3
  have y4 := X0.out.y.cell 4
  have y5 := X0.out.y.cell 5
  have y6 := X0.out.y.cell 6
  have y7 := X0.out.y.cell 7
  have y8 := X0.out.y.cell 8
  have y9 := X0.out.y.cell 9
  have y10 := X0.out.y.cell 10
  simp [anC] at y0 y1 y2 y3 y4 y5 y6 y7 y8 y9 y10
  unfold anC
  go_enter Try.func27, Try.ntmps27
  go_wp2
  go_ret
  exact ⟨rfl, X0.out.be⟩

set_option maxRecDepth 100000 in
theorem rsame_5 (a b : An) (v v' : Value) (w : World) (ha : IsAn w v a) (hb : IsAn w v' b) (h0 : (a.kind != b.kind) = false) (h1 : (a.code != b.code) = false) (h2 : (a.ver != b.ver) = false) (h3 : ∀ u : World, (Op.equalIn 10000 24 (.agg #[.int .i64 a.pk, .int .i64 a.pl, .int .i64 a.pw, .int .i64 a.pb]) (.agg #[.int .i64 b.pk, .int .i64 b.pl, .int .i64 b.pw, .int .i64 b.pb])).run Try.prog u = .ok true u) (h4 : (a.now != b.now) = false) (h5 : (a.count != b.count) = true) :
    Calls Try.prog 27 #[v, v'] w fun e w' => e = .returned (.bool false) ∧ Below w.heap.size w w' := by
  obtain ⟨A, ca, N, cn, rfl, ha⟩ := ha
  obtain ⟨A', ca', N', cn', rfl, hb⟩ := hb
  have HA := Lib.hid ha
  have HB := Lib.hid hb
  have bd : a.told.length ≤ maxLen ∧ b.told.length ≤ maxLen ∧ a.names.length ≤ maxLen ∧ b.names.length ≤ maxLen := ⟨Nat.le_trans ha.t1 ha.t2, Nat.le_trans hb.t1 hb.t2, Nat.le_trans ha.n1 ha.n2, Nat.le_trans hb.n1 hb.n2⟩
  unfold maxLen at bd
  obtain ⟨bd1, bd2, bd3, bd4⟩ := bd
  have X0 := Lib.hid (SW.made (anC a A ca N cn) (anC b A' ca' N' cn') 43 w)
  clear ha hb
  obtain ⟨W0, hW0⟩ : ∃ W0, W0 = (w.alloc (.cells (anC a A ca N cn).toArray 43)).alloc (.cells (anC b A' ca' N' cn').toArray 43) := ⟨_, rfl⟩
  rw [← hW0] at X0
  have hW := hW0.symm
  unfold anC at hW
  clear hW0
  have x0 := X0.out.x.cell 0
  have x1 := X0.out.x.cell 1
  have x2 := X0.out.x.cell 2
  have x3 := X0.out.x.cell 3
  have x4 := X0.out.x.cell 4
  have x5 := X0.out.x.cell 5
  have x6 := X0.out.x.cell 6
  have x7 := X0.out.x.cell 7
  have x8 := X0.out.x.cell 8
  have x9 := X0.out.x.cell 9
  have x10 := X0.out.x.cell 10
  simp [anC] at x0 x1 x2 x3 x4 x5 x6 x7 x8 x9 x10
  have y0 := X0.out.y.cell 0
  have y1 := X0.out.y.cell 1
  have y2 := X0.out.y.cell 2
  have y3 := X0.out.y.cell 3
  have y4 := X0.out.y.cell 4
  have y5 := X0.out.y.cell 5
  have y6 := X0.out.y.cell 6
  have y7 := X0.out.y.cell 7
  have y8 := X0.out.y.cell 8
  have y9 := X0.out.y.cell 9
  have y10 := X0.out.y.cell 10
  simp [anC] at y0 y1 y2 y3 y4 y5 y6 y7 y8 y9 y10
  unfold anC
  go_enter Try.func27, Try.ntmps27
  go_wp2
  go_ret
  exact ⟨rfl, X0.out.be⟩

set_option maxRecDepth 100000 in
theorem rsame_6 (a b : An) (v v' : Value) (w : World) (ha : IsAn w v a) (hb : IsAn w v' b) (h0 : (a.kind != b.kind) = false) (h1 : (a.code != b.code) = false) (h2 : (a.ver != b.ver) = false) (h3 : ∀ u : World, (Op.equalIn 10000 24 (.agg #[.int .i64 a.pk, .int .i64 a.pl, .int .i64 a.pw, .int .i64 a.pb]) (.agg #[.int .i64 b.pk, .int .i64 b.pl, .int .i64 b.pw, .int .i64 b.pb])).run Try.prog u = .ok true u) (h4 : (a.now != b.now) = false) (h5 : (a.count != b.count) = false) (h6 : ((a.told.length : Int) != (b.told.length : Int)) = true) :
    Calls Try.prog 27 #[v, v'] w fun e w' => e = .returned (.bool false) ∧ Below w.heap.size w w' := by
  obtain ⟨A, ca, N, cn, rfl, ha⟩ := ha
  obtain ⟨A', ca', N', cn', rfl, hb⟩ := hb
  have HA := Lib.hid ha
  have HB := Lib.hid hb
  have bd : a.told.length ≤ maxLen ∧ b.told.length ≤ maxLen ∧ a.names.length ≤ maxLen ∧ b.names.length ≤ maxLen := ⟨Nat.le_trans ha.t1 ha.t2, Nat.le_trans hb.t1 hb.t2, Nat.le_trans ha.n1 ha.n2, Nat.le_trans hb.n1 hb.n2⟩
  unfold maxLen at bd
  obtain ⟨bd1, bd2, bd3, bd4⟩ := bd
  have X0 := Lib.hid (SW.made (anC a A ca N cn) (anC b A' ca' N' cn') 43 w)
  clear ha hb
  obtain ⟨W0, hW0⟩ : ∃ W0, W0 = (w.alloc (.cells (anC a A ca N cn).toArray 43)).alloc (.cells (anC b A' ca' N' cn').toArray 43) := ⟨_, rfl⟩
  rw [← hW0] at X0
  have hW := hW0.symm
  unfold anC at hW
  clear hW0
  have x0 := X0.out.x.cell 0
  have x1 := X0.out.x.cell 1
  have x2 := X0.out.x.cell 2
  have x3 := X0.out.x.cell 3
  have x4 := X0.out.x.cell 4
  have x5 := X0.out.x.cell 5
  have x6 := X0.out.x.cell 6
  have x7 := X0.out.x.cell 7
  have x8 := X0.out.x.cell 8
  have x9 := X0.out.x.cell 9
  have x10 := X0.out.x.cell 10
  simp [anC] at x0 x1 x2 x3 x4 x5 x6 x7 x8 x9 x10
  have y0 := X0.out.y.cell 0
  have y1 := X0.out.y.cell 1
  have y2 := X0.out.y.cell 2
  have y3 := X0.out.y.cell 3
  have y4 := X0.out.y.cell 4
  have y5 := X0.out.y.cell 5
  have y6 := X0.out.y.cell 6
  have y7 := X0.out.y.cell 7
  have y8 := X0.out.y.cell 8
  have y9 := X0.out.y.cell 9
  have y10 := X0.out.y.cell 10
  simp [anC] at y0 y1 y2 y3 y4 y5 y6 y7 y8 y9 y10
  unfold anC
  go_enter Try.func27, Try.ntmps27
  go_wp2
  go_ret
  exact ⟨rfl, X0.out.be⟩

set_option maxRecDepth 100000 in
theorem rsame_7 (a b : An) (v v' : Value) (w : World) (ha : IsAn w v a) (hb : IsAn w v' b) (h0 : (a.kind != b.kind) = false) (h1 : (a.code != b.code) = false) (h2 : (a.ver != b.ver) = false) (h3 : ∀ u : World, (Op.equalIn 10000 24 (.agg #[.int .i64 a.pk, .int .i64 a.pl, .int .i64 a.pw, .int .i64 a.pb]) (.agg #[.int .i64 b.pk, .int .i64 b.pl, .int .i64 b.pw, .int .i64 b.pb])).run Try.prog u = .ok true u) (h4 : (a.now != b.now) = false) (h5 : (a.count != b.count) = false) (h6 : a.told.length = b.told.length) (h7 : ((a.names.length : Int) != (b.names.length : Int)) = true) :
    Calls Try.prog 27 #[v, v'] w fun e w' => e = .returned (.bool false) ∧ Below w.heap.size w w' := by
  obtain ⟨A, ca, N, cn, rfl, ha⟩ := ha
  obtain ⟨A', ca', N', cn', rfl, hb⟩ := hb
  have HA := Lib.hid ha
  have HB := Lib.hid hb
  have bd : a.told.length ≤ maxLen ∧ b.told.length ≤ maxLen ∧ a.names.length ≤ maxLen ∧ b.names.length ≤ maxLen := ⟨Nat.le_trans ha.t1 ha.t2, Nat.le_trans hb.t1 hb.t2, Nat.le_trans ha.n1 ha.n2, Nat.le_trans hb.n1 hb.n2⟩
  unfold maxLen at bd
  obtain ⟨bd1, bd2, bd3, bd4⟩ := bd
  have X0 := Lib.hid (SW.made (anC a A ca N cn) (anC b A' ca' N' cn') 43 w)
  clear ha hb
  obtain ⟨W0, hW0⟩ : ∃ W0, W0 = (w.alloc (.cells (anC a A ca N cn).toArray 43)).alloc (.cells (anC b A' ca' N' cn').toArray 43) := ⟨_, rfl⟩
  rw [← hW0] at X0
  have hW := hW0.symm
  unfold anC at hW
  clear hW0
  have x0 := X0.out.x.cell 0
  have x1 := X0.out.x.cell 1
  have x2 := X0.out.x.cell 2
  have x3 := X0.out.x.cell 3
  have x4 := X0.out.x.cell 4
  have x5 := X0.out.x.cell 5
  have x6 := X0.out.x.cell 6
  have x7 := X0.out.x.cell 7
  have x8 := X0.out.x.cell 8
  have x9 := X0.out.x.cell 9
  have x10 := X0.out.x.cell 10
  simp [anC] at x0 x1 x2 x3 x4 x5 x6 x7 x8 x9 x10
  have y0 := X0.out.y.cell 0
  have y1 := X0.out.y.cell 1
  have y2 := X0.out.y.cell 2
  have y3 := X0.out.y.cell 3
  have y4 := X0.out.y.cell 4
  have y5 := X0.out.y.cell 5
  have y6 := X0.out.y.cell 6
  have y7 := X0.out.y.cell 7
  have y8 := X0.out.y.cell 8
  have y9 := X0.out.y.cell 9
  have y10 := X0.out.y.cell 10
  simp [anC] at y0 y1 y2 y3 y4 y5 y6 y7 y8 y9 y10
  unfold anC
  rw [h6] at hW ⊢
  rw [h6] at x2
  have HH := Lib.hid h6
  clear h6 bd1
  go_enter Try.func27, Try.ntmps27
  go_wp2
  go_ret
  exact ⟨rfl, X0.out.be⟩

set_option maxRecDepth 100000 in
theorem rsame_8 (a b : An) (v v' : Value) (w : World) (ha : IsAn w v a) (hb : IsAn w v' b) (h0 : (a.kind != b.kind) = false) (h1 : (a.code != b.code) = false) (h2 : (a.ver != b.ver) = false) (h3 : ∀ u : World, (Op.equalIn 10000 24 (.agg #[.int .i64 a.pk, .int .i64 a.pl, .int .i64 a.pw, .int .i64 a.pb]) (.agg #[.int .i64 b.pk, .int .i64 b.pl, .int .i64 b.pw, .int .i64 b.pb])).run Try.prog u = .ok true u) (h4 : (a.now != b.now) = false) (h5 : (a.count != b.count) = false) (h6 : a.told.length = b.told.length) (h7 : a.names.length = b.names.length) :
    Calls Try.prog 27 #[v, v'] w fun e w' => TellsM (a.told = b.told ∧ a.names = b.names) w e w' := by
  obtain ⟨A, ca, N, cn, rfl, ha⟩ := ha
  obtain ⟨A', ca', N', cn', rfl, hb⟩ := hb
  have HA := Lib.hid ha
  have HB := Lib.hid hb
  have bd : a.told.length ≤ maxLen ∧ b.told.length ≤ maxLen ∧ a.names.length ≤ maxLen ∧ b.names.length ≤ maxLen := ⟨Nat.le_trans ha.t1 ha.t2, Nat.le_trans hb.t1 hb.t2, Nat.le_trans ha.n1 ha.n2, Nat.le_trans hb.n1 hb.n2⟩
  unfold maxLen at bd
  obtain ⟨bd1, bd2, bd3, bd4⟩ := bd
  have X0 := Lib.hid (SW.made (anC a A ca N cn) (anC b A' ca' N' cn') 43 w)
  clear ha hb
  obtain ⟨W0, hW0⟩ : ∃ W0, W0 = (w.alloc (.cells (anC a A ca N cn).toArray 43)).alloc (.cells (anC b A' ca' N' cn').toArray 43) := ⟨_, rfl⟩
  rw [← hW0] at X0
  have hW := hW0.symm
  unfold anC at hW
  clear hW0
  have x0 := X0.out.x.cell 0
  have x1 := X0.out.x.cell 1
  have x2 := X0.out.x.cell 2
  have x3 := X0.out.x.cell 3
  have x4 := X0.out.x.cell 4
  have x5 := X0.out.x.cell 5
  have x6 := X0.out.x.cell 6
  have x7 := X0.out.x.cell 7
  have x8 := X0.out.x.cell 8
  have x9 := X0.out.x.cell 9
  have x10 := X0.out.x.cell 10
  simp [anC] at x0 x1 x2 x3 x4 x5 x6 x7 x8 x9 x10
  have y0 := X0.out.y.cell 0
  have y1 := X0.out.y.cell 1
  have y2 := X0.out.y.cell 2
  have y3 := X0.out.y.cell 3
  have y4 := X0.out.y.cell 4
  have y5 := X0.out.y.cell 5
  have y6 := X0.out.y.cell 6
  have y7 := X0.out.y.cell 7
  have y8 := X0.out.y.cell 8
  have y9 := X0.out.y.cell 9
  have y10 := X0.out.y.cell 10
  simp [anC] at y0 y1 y2 y3 y4 y5 y6 y7 y8 y9 y10
  unfold anC
  rw [h6, h7] at hW ⊢
  rw [h6] at x2
  rw [h7] at x10
  have HH := Lib.hid (And.intro h6 h7)
  clear h6 h7 bd1 bd3
  go_enter Try.func27, Try.ntmps27
  go_wp2_with fail
  go_loopw [5] (fun i wr => ∃ k : Nat, k ≤ b.told.length ∧ i = .int .i64 k ∧ SW (anC a A ca N cn) (anC b A' ca' N' cn') 43 w wr ∧ ∀ j, j < k → a.told[j]? = b.told[j]?) (fun i _ => b.told.length - (intOf i).toNat)
  case atStart => exact ⟨0, Nat.zero_le _, rfl, X0.out, fun j hj => absurd hj (Nat.not_lt_zero _)⟩
  case round =>
    obtain ⟨i, hi, rfl, hx, hall⟩ := hrel
    have XR := Lib.hid hx
    have AL := Lib.hid hall
    clear hx hall
    by_cases hlt : i < b.told.length
    · have hil : i < a.told.length := by rw [HH.out.1]; exact hlt
      have bel : Below w.heap.size w wr := XR.out.be
      obtain ⟨bb, off, e1, hb1, hx⟩ := ((HA.out.below bel).ts).get hil
      obtain ⟨b2, off2, e2, hb2, hy⟩ := ((HB.out.below bel).ts).get hlt
      obtain ⟨x, ex⟩ : ∃ x, x = a.told[i] := ⟨_, rfl⟩
      obtain ⟨y, ey⟩ : ∃ y, y = b.told[i] := ⟨_, rfl⟩
      rw [← ex] at hx
      rw [← ey] at hy
      have EX := Lib.hid (show a.told[i]? = some x by rw [ex]; exact List.getElem?_eq_getElem hil)
      have EY := Lib.hid (show b.told[i]? = some y by rw [ey]; exact List.getElem?_eq_getElem hlt)
      subst e1 e2
      have u0 := hx 0 _ rfl
      have v0 := hy 0 _ rfl
      have u1 := hx 1 _ rfl
      have v1 := hy 1 _ rfl
      have u2 := hx 2 _ rfl
      have v2 := hy 2 _ rfl
      have u3 := hx 3 _ rfl
      have v3 := hy 3 _ rfl
      have u4 := hx 4 _ rfl
      have v4 := hy 4 _ rfl
      simp at u0 v0 u1 v1 u2 v2 u3 v3 u4 v4
      have x2 := XR.out.x.cell 2
      have y2 := XR.out.y.cell 2
      have x10 := XR.out.x.cell 10
      have y10 := XR.out.y.cell 10
      simp [anC] at x2 x10 y2 y10
      rw [HH.out.1] at x2
      rw [HH.out.2] at x10
      clear hx hy ex ey hil
      by_cases hxy : x = y
      · subst hxy
        have hq := td_same x
        go_wp2_with fail
        go_quiet (fail)
        have XN := Lib.hid (XR.out.drewN nq)
        go_wp2_with fail
        go_roundw
        case rel =>
          refine ⟨i + 1, by omega, by go_num, XN.out, fun j hj => ?_⟩
          by_cases e : j = i
          · rw [e, EX.out, EY.out]
          · exact AL.out j (by omega)
        case measure => simp [intOf]; omega
      · have hq := td_ne hxy
        have R := Lib.hid (show ¬ a.told = b.told from fun e => by
          have := EX.out
          rw [e, EY.out] at this
          exact hxy (Option.some.inj this).symm)
        clear hxy
        go_wp2_with fail
        go_quiet (fail)
        have XN := Lib.hid (XR.out.drewN nq)
        go_wp2
        go_ret
        exact ⟨⟨false, rfl, fun e => (by cases e), fun e => absurd e.1 R.out⟩, XN.out.be⟩
    · obtain rfl : i = b.told.length := by omega
      have Etold := Lib.hid (show a.told = b.told from list_ext HH.out.1 (fun j hj => AL.out j (by rw [← HH.out.1]; exact hj)))
      have XLtold := Lib.hid XR.out
      have x2 := XR.out.x.cell 2
      have y2 := XR.out.y.cell 2
      have x10 := XR.out.x.cell 10
      have y10 := XR.out.y.cell 10
      simp [anC] at x2 x10 y2 y10
      rw [HH.out.1] at x2
      rw [HH.out.2] at x10
      go_wp2_with fail
      go_loopw [6] (fun i wr => ∃ k : Nat, k ≤ b.names.length ∧ i = .int .i64 k ∧ SW (anC a A ca N cn) (anC b A' ca' N' cn') 43 w wr ∧ ∀ j, j < k → a.names[j]? = b.names[j]?) (fun i _ => b.names.length - (intOf i).toNat)
      case atStart => exact ⟨0, Nat.zero_le _, rfl, XLtold.out, fun j hj => absurd hj (Nat.not_lt_zero _)⟩
      case round =>
        obtain ⟨i, hi, rfl, hx, hall⟩ := hrel
        have XR := Lib.hid hx
        have AL := Lib.hid hall
        clear hx hall
        by_cases hlt : i < b.names.length
        · have hil : i < a.names.length := by rw [HH.out.2]; exact hlt
          have bel : Below w.heap.size w wr := XR.out.be
          obtain ⟨bb, off, e1, hb1, hx⟩ := ((HA.out.below bel).ns).get hil
          obtain ⟨b2, off2, e2, hb2, hy⟩ := ((HB.out.below bel).ns).get hlt
          obtain ⟨x, ex⟩ : ∃ x, x = a.names[i] := ⟨_, rfl⟩
          obtain ⟨y, ey⟩ : ∃ y, y = b.names[i] := ⟨_, rfl⟩
          rw [← ex] at hx
          rw [← ey] at hy
          have EX := Lib.hid (show a.names[i]? = some x by rw [ex]; exact List.getElem?_eq_getElem hil)
          have EY := Lib.hid (show b.names[i]? = some y by rw [ey]; exact List.getElem?_eq_getElem hlt)
          subst e1 e2
          have u0 := hx 0 _ rfl
          have v0 := hy 0 _ rfl
          have u1 := hx 1 _ rfl
          have v1 := hy 1 _ rfl
          simp at u0 v0 u1 v1
          have x2 := XR.out.x.cell 2
          have y2 := XR.out.y.cell 2
          have x10 := XR.out.x.cell 10
          have y10 := XR.out.y.cell 10
          simp [anC] at x2 x10 y2 y10
          rw [HH.out.1] at x2
          rw [HH.out.2] at x10
          clear hx hy ex ey hil
          by_cases hxy : x = y
          · subst hxy
            have hq := nm_same x
            go_wp2_with fail
            go_quiet (fail)
            have XN := Lib.hid (XR.out.drewN nq)
            go_wp2_with fail
            go_roundw
            case rel =>
              refine ⟨i + 1, by omega, by go_num, XN.out, fun j hj => ?_⟩
              by_cases e : j = i
              · rw [e, EX.out, EY.out]
              · exact AL.out j (by omega)
            case measure => simp [intOf]; omega
          · have hq := nm_ne hxy
            have R := Lib.hid (show ¬ a.names = b.names from fun e => by
              have := EX.out
              rw [e, EY.out] at this
              exact hxy (Option.some.inj this).symm)
            clear hxy
            go_wp2_with fail
            go_quiet (fail)
            have XN := Lib.hid (XR.out.drewN nq)
            go_wp2
            go_ret
            exact ⟨⟨false, rfl, fun e => (by cases e), fun e => absurd e.2 R.out⟩, XN.out.be⟩
        · obtain rfl : i = b.names.length := by omega
          have Enames := Lib.hid (show a.names = b.names from list_ext HH.out.2 (fun j hj => AL.out j (by rw [← HH.out.2]; exact hj)))
          have XLnames := Lib.hid XR.out
          have x2 := XR.out.x.cell 2
          have y2 := XR.out.y.cell 2
          have x10 := XR.out.x.cell 10
          have y10 := XR.out.y.cell 10
          simp [anC] at x2 x10 y2 y10
          rw [HH.out.1] at x2
          rw [HH.out.2] at x10
          go_wp2
          go_ret
          exact ⟨⟨true, rfl, fun _ => ⟨Etold.out, Enames.out⟩, fun _ => rfl⟩, XLnames.out.be⟩

/-- What the document's comparison of two answers tells. -/
theorem rsame_any (a b : An) (v v' : Value) (w : World) (ha : IsAn w v a) (hb : IsAn w v' b) :
    Calls Try.prog 27 #[v, v'] w (TellsM (a = b) w) := by
  have no : ∀ (e : Ending) (w' : World), (e = .returned (.bool false) ∧ Below w.heap.size w w') → ¬ a = b → TellsM (a = b) w e w' := by
    rintro e w' ⟨rfl, h⟩ hn
    exact ⟨⟨false, rfl, fun e => (by cases e), fun e => absurd e hn⟩, h⟩
  have t : ∀ {x y : Int}, x = y → (x != y) = false := fun h => by simp [h]
  have f : ∀ {x y : Int}, ¬ x = y → (x != y) = true := fun h => by simp [h]
  by_cases e0 : a.kind = b.kind
  case neg => exact (rsame_0 a b v v' w ha hb (f e0)).mono fun e w' h => no e w' h (fun q => e0 (by rw [q]))
  by_cases e1 : a.code = b.code
  case neg => exact (rsame_1 a b v v' w ha hb (t e0) (f e1)).mono fun e w' h => no e w' h (fun q => e1 (by rw [q]))
  by_cases e2 : a.ver = b.ver
  case neg => exact (rsame_2 a b v v' w ha hb (t e0) (t e1) (f e2)).mono fun e w' h => no e w' h (fun q => e2 (by rw [q]))
  by_cases e3 : a.pk = b.pk ∧ a.pl = b.pl ∧ a.pw = b.pw ∧ a.pb = b.pb
  case neg => exact (rsame_3 a b v v' w ha hb (t e0) (t e1) (t e2) (pol_ne e3)).mono fun e w' h => no e w' h (fun q => e3 (by rw [q]; exact ⟨rfl, rfl, rfl, rfl⟩))
  have hp : ∀ u : World, (Op.equalIn 10000 24 (.agg #[.int .i64 a.pk, .int .i64 a.pl, .int .i64 a.pw, .int .i64 a.pb]) (.agg #[.int .i64 b.pk, .int .i64 b.pl, .int .i64 b.pw, .int .i64 b.pb])).run Try.prog u = .ok true u := by
    rw [e3.1, e3.2.1, e3.2.2.1, e3.2.2.2]
    exact pol_same _ _ _ _
  by_cases e4 : a.now = b.now
  case neg => exact (rsame_4 a b v v' w ha hb (t e0) (t e1) (t e2) hp (f e4)).mono fun e w' h => no e w' h (fun q => e4 (by rw [q]))
  by_cases e5 : a.count = b.count
  case neg => exact (rsame_5 a b v v' w ha hb (t e0) (t e1) (t e2) hp (t e4) (f e5)).mono fun e w' h => no e w' h (fun q => e5 (by rw [q]))
  by_cases e6 : a.told.length = b.told.length
  case neg => exact (rsame_6 a b v v' w ha hb (t e0) (t e1) (t e2) hp (t e4) (t e5) (f (by omega))).mono fun e w' h => no e w' h (fun q => e6 (by rw [q]))
  by_cases e7 : a.names.length = b.names.length
  case neg => exact (rsame_7 a b v v' w ha hb (t e0) (t e1) (t e2) hp (t e4) (t e5) e6 (f (by omega))).mono fun e w' h => no e w' h (fun q => e7 (by rw [q]))
  refine (rsame_8 a b v v' w ha hb (t e0) (t e1) (t e2) hp (t e4) (t e5) e6 e7).mono ?_
  rintro e w' ⟨⟨q, rfl, hq⟩, h⟩
  refine ⟨⟨q, rfl, hq.trans ⟨fun e => ?_, fun e => by rw [e]; exact ⟨rfl, rfl⟩⟩⟩, h⟩
  obtain ⟨e8, e9⟩ := e
  obtain ⟨e3, e10, e11, e12⟩ := e3
  cases a; cases b
  simp only at e0 e1 e2 e3 e4 e5 e8 e9 e10 e11 e12
  subst e0 e1 e2 e3 e4 e5 e8 e9 e10 e11 e12
  rfl
/-- The document's bounds on what the statements ask. -/
def ShortA (a : An) : Prop := a.told.length ≤ 40 ∧ a.names.length ≤ 40 ∧ ∀ n ∈ a.names, n.key.size ≤ 300

set_option maxRecDepth 100000 in
theorem short_0 (a : An) (v : Value) (w : World) (ha : IsAn w v a) (h : 40 < a.told.length) :
    Calls Try.prog 19 #[v] w fun e w' => e = .returned (.bool false) ∧ Below w.heap.size w w' := by
  obtain ⟨A, ca, N, cn, rfl, ha⟩ := ha
  have HA := Lib.hid ha
  have bd : a.told.length ≤ maxLen ∧ a.names.length ≤ maxLen := ⟨Nat.le_trans ha.t1 ha.t2, Nat.le_trans ha.n1 ha.n2⟩
  unfold maxLen at bd
  obtain ⟨bd1, bd2⟩ := bd
  have B0 := Lib.hid (show Has (w.alloc (.cells (anC a A ca N cn).toArray 43)) w.heap.size 43 (anC a A ca N cn) from Has.made _ _ _)
  have L0 := Lib.hid ((Below.refl w.heap.size w).alloc (Nat.le_refl _) (.cells (anC a A ca N cn).toArray 43))
  clear ha
  unfold anC at B0 L0 ⊢
  go_enter Try.func19, Try.ntmps19
  go_wp2
  go_ret
  exact ⟨rfl, L0.out⟩

set_option maxRecDepth 100000 in
theorem short_1 (a : An) (v : Value) (w : World) (ha : IsAn w v a) (h : a.told.length ≤ 40) (h2 : 40 < a.names.length) :
    Calls Try.prog 19 #[v] w fun e w' => e = .returned (.bool false) ∧ Below w.heap.size w w' := by
  obtain ⟨A, ca, N, cn, rfl, ha⟩ := ha
  have HA := Lib.hid ha
  have bd : a.told.length ≤ maxLen ∧ a.names.length ≤ maxLen := ⟨Nat.le_trans ha.t1 ha.t2, Nat.le_trans ha.n1 ha.n2⟩
  unfold maxLen at bd
  obtain ⟨bd1, bd2⟩ := bd
  have B0 := Lib.hid (show Has (w.alloc (.cells (anC a A ca N cn).toArray 43)) w.heap.size 43 (anC a A ca N cn) from Has.made _ _ _)
  have L0 := Lib.hid ((Below.refl w.heap.size w).alloc (Nat.le_refl _) (.cells (anC a A ca N cn).toArray 43))
  clear ha
  unfold anC at B0 L0 ⊢
  go_enter Try.func19, Try.ntmps19
  go_wp2
  go_ret
  exact ⟨rfl, L0.out⟩

set_option maxRecDepth 100000 in
theorem short_2 (a : An) (v : Value) (w : World) (ha : IsAn w v a) (h : a.told.length ≤ 40) (h2 : a.names.length ≤ 40) :
    Calls Try.prog 19 #[v] w fun e w' => TellsM (∀ n ∈ a.names, n.key.size ≤ 300) w e w' := by
  obtain ⟨A, ca, N, cn, rfl, ha⟩ := ha
  have HA := Lib.hid ha
  have bd : a.told.length ≤ maxLen ∧ a.names.length ≤ maxLen := ⟨Nat.le_trans ha.t1 ha.t2, Nat.le_trans ha.n1 ha.n2⟩
  unfold maxLen at bd
  obtain ⟨bd1, bd2⟩ := bd
  have B0 := Lib.hid (show Has (w.alloc (.cells (anC a A ca N cn).toArray 43)) w.heap.size 43 (anC a A ca N cn) from Has.made _ _ _)
  have L0 := Lib.hid ((Below.refl w.heap.size w).alloc (Nat.le_refl _) (.cells (anC a A ca N cn).toArray 43))
  clear ha
  unfold anC at B0 L0 ⊢
  go_enter Try.func19, Try.ntmps19
  go_wp2_with fail
  go_loopw [3] (fun i wr => ∃ k : Nat, k ≤ a.names.length ∧ i = .int .i64 k ∧ wr = w.alloc (.cells (anC a A ca N cn).toArray 43) ∧ ∀ j n, j < k → a.names[j]? = some n → n.key.size ≤ 300) (fun i _ => a.names.length - (intOf i).toNat)
  case atStart => exact ⟨0, Nat.zero_le _, rfl, rfl, fun j n hj => absurd hj (Nat.not_lt_zero _)⟩
  case round =>
    obtain ⟨i, hi, rfl, rfl, hall⟩ := hrel
    unfold anC
    have AL := Lib.hid hall
    clear hall
    have x10 := B0.out.cell 10
    simp at x10
    by_cases hlt : i < a.names.length
    · obtain ⟨bb, off, e1, hb1, hx⟩ := ((HA.out.below L0.out).ns).get hlt
      obtain ⟨x, ex⟩ : ∃ x, x = a.names[i] := ⟨_, rfl⟩
      have KS := HA.out.ks a.names[i] (List.getElem_mem _)
      rw [← ex] at hx KS
      unfold maxLen at KS
      have EX := Lib.hid (show a.names[i]? = some x by rw [ex]; exact List.getElem?_eq_getElem hlt)
      have EM := Lib.hid (show x ∈ a.names by rw [ex]; exact List.getElem_mem _)
      subst e1
      have u1 := hx 1 _ rfl
      clear hx ex
      by_cases hk : x.key.size ≤ 300
      · go_wp2_with fail
        go_roundw
        case rel =>
          refine ⟨i + 1, by omega, by go_num, (by first | trivial | rfl), fun j n hj hn => ?_⟩
          by_cases e : j = i
          · rw [e, EX.out] at hn
            have : x = n := Option.some.inj hn
            rw [← this]; exact hk
          · exact AL.out j n (by omega) hn
        case measure => simp [intOf]; omega
      · go_wp2
        go_ret
        exact ⟨⟨false, rfl, fun e => (by cases e), fun e => absurd (e x EM.out) hk⟩, L0.out⟩
    · have R := Lib.hid (show ∀ n ∈ a.names, n.key.size ≤ 300 from fun n hn => by
        obtain ⟨j, hj, e⟩ := List.mem_iff_getElem.1 hn
        exact AL.out j n (by omega) (by rw [List.getElem?_eq_getElem hj, e]))
      go_wp2
      go_ret
      exact ⟨⟨true, rfl, fun _ => R.out, fun _ => rfl⟩, L0.out⟩

theorem Short_any (a : An) (v : Value) (w : World) (ha : IsAn w v a) : Calls Try.prog 19 #[v] w (TellsM (ShortA a) w) := by
  by_cases h : a.told.length ≤ 40
  case neg =>
    refine (short_0 a v w ha (by omega)).mono ?_
    rintro e w' ⟨rfl, hb⟩
    exact ⟨⟨false, rfl, fun e => (by cases e), fun e => absurd e.1 h⟩, hb⟩
  by_cases h2 : a.names.length ≤ 40
  case neg =>
    refine (short_1 a v w ha h (by omega)).mono ?_
    rintro e w' ⟨rfl, hb⟩
    exact ⟨⟨false, rfl, fun e => (by cases e), fun e => absurd e.2.1 h2⟩, hb⟩
  refine (short_2 a v w ha h h2).mono ?_
  rintro e w' ⟨⟨q, rfl, hq⟩, hb⟩
  exact ⟨⟨q, rfl, hq.trans ⟨fun e => ⟨h, h2, e⟩, fun e => e.2.2⟩⟩, hb⟩
end Go.Proofs.Ytljllfopgpmekab
