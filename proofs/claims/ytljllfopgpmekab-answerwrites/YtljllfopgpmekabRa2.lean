/- The document's own: whether an answer may be. -/
import Derived.Test.YtljllfopgpmekabRa1
import Derived.Handy
-- prune
namespace Go.Proofs.Ytljllfopgpmekab
open Go.ChangeShapes Go.WideShapes Go.ChangeAt Go.RowKit
set_option linter.unusedVariables false


theorem fits_1 (n : Int) (w : World) : Calls Try.prog 47 #[.int .i64 n, .int .i64 1] w fun e w' => e = .returned (.bool (decide (Fit n 1))) ∧ w = w' := fits2_any n 1 (by decide) w
theorem fits_2 (n : Int) (w : World) : Calls Try.prog 47 #[.int .i64 n, .int .i64 2] w fun e w' => e = .returned (.bool (decide (Fit n 2))) ∧ w = w' := fits2_any n 2 (by decide) w
theorem fits_4 (n : Int) (w : World) : Calls Try.prog 47 #[.int .i64 n, .int .i64 4] w fun e w' => e = .returned (.bool (decide (Fit n 4))) ∧ w = w' := fits2_any n 4 (by decide) w
theorem fits_6 (n : Int) (w : World) : Calls Try.prog 47 #[.int .i64 n, .int .i64 6] w fun e w' => e = .returned (.bool (decide (Fit n 6))) ∧ w = w' := fits2_any n 6 (by decide) w
set_option maxRecDepth 100000 in
set_option maxHeartbeats 1000000 in
theorem rmay_0 (a : An) (v : Value) (w : World) (ha : IsAn w v a) (d0 : decide (Fit a.kind 1) = false) :
    Calls Try.prog 24 #[v] w fun e w' => e = .returned (.bool false) ∧ Below w.heap.size w w' := by
  obtain ⟨A, ca, N, cn, rfl, ha⟩ := ha
  have HA := Lib.hid ha
  have bd : a.told.length ≤ maxLen ∧ a.names.length ≤ maxLen := ⟨Nat.le_trans ha.t1 ha.t2, Nat.le_trans ha.n1 ha.n2⟩
  unfold maxLen at bd
  obtain ⟨bd1, bd2⟩ := bd
  have X0 := Lib.hid (show OW (anC a A ca N cn) 43 w ((w.alloc (.cells (anC a A ca N cn).toArray 43)).alloc (.cells #[.int .i64 a.pk, .int .i64 a.pl, .int .i64 a.pw, .int .i64 a.pb] 24)) from ⟨(Has.made _ _ _).alloc _, ((Below.refl _ _).alloc (Nat.le_refl _) _).alloc (by simp) _⟩)
  clear ha
  unfold anC at X0 ⊢
  go_enter Try.func24, Try.ntmps24
  go_wp2_with (first | (go_at_call 47; (with_reducible refine (fits_1 _ _).mono ?_); rintro e w1 ⟨rfl, rfl⟩) | (go_at_call 47; (with_reducible refine (fits_4 _ _).mono ?_); rintro e w1 ⟨rfl, rfl⟩) | (go_at_call 47; (with_reducible refine (fits_6 _ _).mono ?_); rintro e w1 ⟨rfl, rfl⟩) | (go_at_call 47; (with_reducible refine (fits_2 _ _).mono ?_); rintro e w1 ⟨rfl, rfl⟩))
  go_ret
  exact ⟨rfl, X0.out.be⟩

set_option maxRecDepth 100000 in
set_option maxHeartbeats 1000000 in
theorem rmay_1 (a : An) (v : Value) (w : World) (ha : IsAn w v a) (d0 : decide (Fit a.kind 1) = true) (d1 : decide (Fit a.code 1) = false) :
    Calls Try.prog 24 #[v] w fun e w' => e = .returned (.bool false) ∧ Below w.heap.size w w' := by
  obtain ⟨A, ca, N, cn, rfl, ha⟩ := ha
  have HA := Lib.hid ha
  have bd : a.told.length ≤ maxLen ∧ a.names.length ≤ maxLen := ⟨Nat.le_trans ha.t1 ha.t2, Nat.le_trans ha.n1 ha.n2⟩
  unfold maxLen at bd
  obtain ⟨bd1, bd2⟩ := bd
  have X0 := Lib.hid (show OW (anC a A ca N cn) 43 w ((w.alloc (.cells (anC a A ca N cn).toArray 43)).alloc (.cells #[.int .i64 a.pk, .int .i64 a.pl, .int .i64 a.pw, .int .i64 a.pb] 24)) from ⟨(Has.made _ _ _).alloc _, ((Below.refl _ _).alloc (Nat.le_refl _) _).alloc (by simp) _⟩)
  clear ha
  unfold anC at X0 ⊢
  go_enter Try.func24, Try.ntmps24
  go_wp2_with (first | (go_at_call 47; (with_reducible refine (fits_1 _ _).mono ?_); rintro e w1 ⟨rfl, rfl⟩) | (go_at_call 47; (with_reducible refine (fits_4 _ _).mono ?_); rintro e w1 ⟨rfl, rfl⟩) | (go_at_call 47; (with_reducible refine (fits_6 _ _).mono ?_); rintro e w1 ⟨rfl, rfl⟩) | (go_at_call 47; (with_reducible refine (fits_2 _ _).mono ?_); rintro e w1 ⟨rfl, rfl⟩))
  go_ret
  exact ⟨rfl, X0.out.be⟩

set_option maxRecDepth 100000 in
set_option maxHeartbeats 1000000 in
theorem rmay_2 (a : An) (v : Value) (w : World) (ha : IsAn w v a) (d0 : decide (Fit a.kind 1) = true) (d1 : decide (Fit a.code 1) = true) (d2 : decide (Fit a.ver 4) = false) :
    Calls Try.prog 24 #[v] w fun e w' => e = .returned (.bool false) ∧ Below w.heap.size w w' := by
  obtain ⟨A, ca, N, cn, rfl, ha⟩ := ha
  have HA := Lib.hid ha
  have bd : a.told.length ≤ maxLen ∧ a.names.length ≤ maxLen := ⟨Nat.le_trans ha.t1 ha.t2, Nat.le_trans ha.n1 ha.n2⟩
  unfold maxLen at bd
  obtain ⟨bd1, bd2⟩ := bd
  have X0 := Lib.hid (show OW (anC a A ca N cn) 43 w ((w.alloc (.cells (anC a A ca N cn).toArray 43)).alloc (.cells #[.int .i64 a.pk, .int .i64 a.pl, .int .i64 a.pw, .int .i64 a.pb] 24)) from ⟨(Has.made _ _ _).alloc _, ((Below.refl _ _).alloc (Nat.le_refl _) _).alloc (by simp) _⟩)
  clear ha
  unfold anC at X0 ⊢
  go_enter Try.func24, Try.ntmps24
  go_wp2_with (first | (go_at_call 47; (with_reducible refine (fits_1 _ _).mono ?_); rintro e w1 ⟨rfl, rfl⟩) | (go_at_call 47; (with_reducible refine (fits_4 _ _).mono ?_); rintro e w1 ⟨rfl, rfl⟩) | (go_at_call 47; (with_reducible refine (fits_6 _ _).mono ?_); rintro e w1 ⟨rfl, rfl⟩) | (go_at_call 47; (with_reducible refine (fits_2 _ _).mono ?_); rintro e w1 ⟨rfl, rfl⟩))
  go_ret
  exact ⟨rfl, X0.out.be⟩

set_option maxRecDepth 100000 in
set_option maxHeartbeats 1000000 in
theorem rmay_3 (a : An) (v : Value) (w : World) (ha : IsAn w v a) (d0 : decide (Fit a.kind 1) = true) (d1 : decide (Fit a.code 1) = true) (d2 : decide (Fit a.ver 4) = true) (d3 : decide (Fit a.pk 1) = false) :
    Calls Try.prog 24 #[v] w fun e w' => e = .returned (.bool false) ∧ Below w.heap.size w w' := by
  obtain ⟨A, ca, N, cn, rfl, ha⟩ := ha
  have HA := Lib.hid ha
  have bd : a.told.length ≤ maxLen ∧ a.names.length ≤ maxLen := ⟨Nat.le_trans ha.t1 ha.t2, Nat.le_trans ha.n1 ha.n2⟩
  unfold maxLen at bd
  obtain ⟨bd1, bd2⟩ := bd
  have X0 := Lib.hid (show OW (anC a A ca N cn) 43 w ((w.alloc (.cells (anC a A ca N cn).toArray 43)).alloc (.cells #[.int .i64 a.pk, .int .i64 a.pl, .int .i64 a.pw, .int .i64 a.pb] 24)) from ⟨(Has.made _ _ _).alloc _, ((Below.refl _ _).alloc (Nat.le_refl _) _).alloc (by simp) _⟩)
  clear ha
  unfold anC at X0 ⊢
  go_enter Try.func24, Try.ntmps24
  go_wp2_with (first | (go_at_call 47; (with_reducible refine (fits_1 _ _).mono ?_); rintro e w1 ⟨rfl, rfl⟩) | (go_at_call 47; (with_reducible refine (fits_4 _ _).mono ?_); rintro e w1 ⟨rfl, rfl⟩) | (go_at_call 47; (with_reducible refine (fits_6 _ _).mono ?_); rintro e w1 ⟨rfl, rfl⟩) | (go_at_call 47; (with_reducible refine (fits_2 _ _).mono ?_); rintro e w1 ⟨rfl, rfl⟩))
  go_ret
  exact ⟨rfl, X0.out.be⟩

set_option maxRecDepth 100000 in
set_option maxHeartbeats 1000000 in
theorem rmay_4 (a : An) (v : Value) (w : World) (ha : IsAn w v a) (d0 : decide (Fit a.kind 1) = true) (d1 : decide (Fit a.code 1) = true) (d2 : decide (Fit a.ver 4) = true) (d3 : decide (Fit a.pk 1) = true) (d4 : decide (Fit a.pl 4) = false) :
    Calls Try.prog 24 #[v] w fun e w' => e = .returned (.bool false) ∧ Below w.heap.size w w' := by
  obtain ⟨A, ca, N, cn, rfl, ha⟩ := ha
  have HA := Lib.hid ha
  have bd : a.told.length ≤ maxLen ∧ a.names.length ≤ maxLen := ⟨Nat.le_trans ha.t1 ha.t2, Nat.le_trans ha.n1 ha.n2⟩
  unfold maxLen at bd
  obtain ⟨bd1, bd2⟩ := bd
  have X0 := Lib.hid (show OW (anC a A ca N cn) 43 w ((w.alloc (.cells (anC a A ca N cn).toArray 43)).alloc (.cells #[.int .i64 a.pk, .int .i64 a.pl, .int .i64 a.pw, .int .i64 a.pb] 24)) from ⟨(Has.made _ _ _).alloc _, ((Below.refl _ _).alloc (Nat.le_refl _) _).alloc (by simp) _⟩)
  clear ha
  unfold anC at X0 ⊢
  go_enter Try.func24, Try.ntmps24
  go_wp2_with (first | (go_at_call 47; (with_reducible refine (fits_1 _ _).mono ?_); rintro e w1 ⟨rfl, rfl⟩) | (go_at_call 47; (with_reducible refine (fits_4 _ _).mono ?_); rintro e w1 ⟨rfl, rfl⟩) | (go_at_call 47; (with_reducible refine (fits_6 _ _).mono ?_); rintro e w1 ⟨rfl, rfl⟩) | (go_at_call 47; (with_reducible refine (fits_2 _ _).mono ?_); rintro e w1 ⟨rfl, rfl⟩))
  go_ret
  exact ⟨rfl, X0.out.be⟩

set_option maxRecDepth 100000 in
set_option maxHeartbeats 1000000 in
theorem rmay_5 (a : An) (v : Value) (w : World) (ha : IsAn w v a) (d0 : decide (Fit a.kind 1) = true) (d1 : decide (Fit a.code 1) = true) (d2 : decide (Fit a.ver 4) = true) (d3 : decide (Fit a.pk 1) = true) (d4 : decide (Fit a.pl 4) = true) (d5 : decide (Fit a.pw 4) = false) :
    Calls Try.prog 24 #[v] w fun e w' => e = .returned (.bool false) ∧ Below w.heap.size w w' := by
  obtain ⟨A, ca, N, cn, rfl, ha⟩ := ha
  have HA := Lib.hid ha
  have bd : a.told.length ≤ maxLen ∧ a.names.length ≤ maxLen := ⟨Nat.le_trans ha.t1 ha.t2, Nat.le_trans ha.n1 ha.n2⟩
  unfold maxLen at bd
  obtain ⟨bd1, bd2⟩ := bd
  have X0 := Lib.hid (show OW (anC a A ca N cn) 43 w ((w.alloc (.cells (anC a A ca N cn).toArray 43)).alloc (.cells #[.int .i64 a.pk, .int .i64 a.pl, .int .i64 a.pw, .int .i64 a.pb] 24)) from ⟨(Has.made _ _ _).alloc _, ((Below.refl _ _).alloc (Nat.le_refl _) _).alloc (by simp) _⟩)
  clear ha
  unfold anC at X0 ⊢
  go_enter Try.func24, Try.ntmps24
  go_wp2_with (first | (go_at_call 47; (with_reducible refine (fits_1 _ _).mono ?_); rintro e w1 ⟨rfl, rfl⟩) | (go_at_call 47; (with_reducible refine (fits_4 _ _).mono ?_); rintro e w1 ⟨rfl, rfl⟩) | (go_at_call 47; (with_reducible refine (fits_6 _ _).mono ?_); rintro e w1 ⟨rfl, rfl⟩) | (go_at_call 47; (with_reducible refine (fits_2 _ _).mono ?_); rintro e w1 ⟨rfl, rfl⟩))
  go_ret
  exact ⟨rfl, X0.out.be⟩

set_option maxRecDepth 100000 in
set_option maxHeartbeats 1000000 in
theorem rmay_6 (a : An) (v : Value) (w : World) (ha : IsAn w v a) (d0 : decide (Fit a.kind 1) = true) (d1 : decide (Fit a.code 1) = true) (d2 : decide (Fit a.ver 4) = true) (d3 : decide (Fit a.pk 1) = true) (d4 : decide (Fit a.pl 4) = true) (d5 : decide (Fit a.pw 4) = true) (d6 : decide (Fit a.pb 1) = false) :
    Calls Try.prog 24 #[v] w fun e w' => e = .returned (.bool false) ∧ Below w.heap.size w w' := by
  obtain ⟨A, ca, N, cn, rfl, ha⟩ := ha
  have HA := Lib.hid ha
  have bd : a.told.length ≤ maxLen ∧ a.names.length ≤ maxLen := ⟨Nat.le_trans ha.t1 ha.t2, Nat.le_trans ha.n1 ha.n2⟩
  unfold maxLen at bd
  obtain ⟨bd1, bd2⟩ := bd
  have X0 := Lib.hid (show OW (anC a A ca N cn) 43 w ((w.alloc (.cells (anC a A ca N cn).toArray 43)).alloc (.cells #[.int .i64 a.pk, .int .i64 a.pl, .int .i64 a.pw, .int .i64 a.pb] 24)) from ⟨(Has.made _ _ _).alloc _, ((Below.refl _ _).alloc (Nat.le_refl _) _).alloc (by simp) _⟩)
  clear ha
  unfold anC at X0 ⊢
  go_enter Try.func24, Try.ntmps24
  go_wp2_with (first | (go_at_call 47; (with_reducible refine (fits_1 _ _).mono ?_); rintro e w1 ⟨rfl, rfl⟩) | (go_at_call 47; (with_reducible refine (fits_4 _ _).mono ?_); rintro e w1 ⟨rfl, rfl⟩) | (go_at_call 47; (with_reducible refine (fits_6 _ _).mono ?_); rintro e w1 ⟨rfl, rfl⟩) | (go_at_call 47; (with_reducible refine (fits_2 _ _).mono ?_); rintro e w1 ⟨rfl, rfl⟩))
  go_ret
  exact ⟨rfl, X0.out.be⟩

set_option maxRecDepth 100000 in
set_option maxHeartbeats 1000000 in
theorem rmay_7 (a : An) (v : Value) (w : World) (ha : IsAn w v a) (d0 : decide (Fit a.kind 1) = true) (d1 : decide (Fit a.code 1) = true) (d2 : decide (Fit a.ver 4) = true) (d3 : decide (Fit a.pk 1) = true) (d4 : decide (Fit a.pl 4) = true) (d5 : decide (Fit a.pw 4) = true) (d6 : decide (Fit a.pb 1) = true) (d7 : decide (Fit a.now 6) = false) :
    Calls Try.prog 24 #[v] w fun e w' => e = .returned (.bool false) ∧ Below w.heap.size w w' := by
  obtain ⟨A, ca, N, cn, rfl, ha⟩ := ha
  have HA := Lib.hid ha
  have bd : a.told.length ≤ maxLen ∧ a.names.length ≤ maxLen := ⟨Nat.le_trans ha.t1 ha.t2, Nat.le_trans ha.n1 ha.n2⟩
  unfold maxLen at bd
  obtain ⟨bd1, bd2⟩ := bd
  have X0 := Lib.hid (show OW (anC a A ca N cn) 43 w ((w.alloc (.cells (anC a A ca N cn).toArray 43)).alloc (.cells #[.int .i64 a.pk, .int .i64 a.pl, .int .i64 a.pw, .int .i64 a.pb] 24)) from ⟨(Has.made _ _ _).alloc _, ((Below.refl _ _).alloc (Nat.le_refl _) _).alloc (by simp) _⟩)
  clear ha
  unfold anC at X0 ⊢
  go_enter Try.func24, Try.ntmps24
  go_wp2_with (first | (go_at_call 47; (with_reducible refine (fits_1 _ _).mono ?_); rintro e w1 ⟨rfl, rfl⟩) | (go_at_call 47; (with_reducible refine (fits_4 _ _).mono ?_); rintro e w1 ⟨rfl, rfl⟩) | (go_at_call 47; (with_reducible refine (fits_6 _ _).mono ?_); rintro e w1 ⟨rfl, rfl⟩) | (go_at_call 47; (with_reducible refine (fits_2 _ _).mono ?_); rintro e w1 ⟨rfl, rfl⟩))
  go_ret
  exact ⟨rfl, X0.out.be⟩

set_option maxRecDepth 100000 in
set_option maxHeartbeats 1000000 in
theorem rmay_8 (a : An) (v : Value) (w : World) (ha : IsAn w v a) (d0 : decide (Fit a.kind 1) = true) (d1 : decide (Fit a.code 1) = true) (d2 : decide (Fit a.ver 4) = true) (d3 : decide (Fit a.pk 1) = true) (d4 : decide (Fit a.pl 4) = true) (d5 : decide (Fit a.pw 4) = true) (d6 : decide (Fit a.pb 1) = true) (d7 : decide (Fit a.now 6) = true) (d8 : decide (Fit a.count 2) = false) :
    Calls Try.prog 24 #[v] w fun e w' => e = .returned (.bool false) ∧ Below w.heap.size w w' := by
  obtain ⟨A, ca, N, cn, rfl, ha⟩ := ha
  have HA := Lib.hid ha
  have bd : a.told.length ≤ maxLen ∧ a.names.length ≤ maxLen := ⟨Nat.le_trans ha.t1 ha.t2, Nat.le_trans ha.n1 ha.n2⟩
  unfold maxLen at bd
  obtain ⟨bd1, bd2⟩ := bd
  have X0 := Lib.hid (show OW (anC a A ca N cn) 43 w ((w.alloc (.cells (anC a A ca N cn).toArray 43)).alloc (.cells #[.int .i64 a.pk, .int .i64 a.pl, .int .i64 a.pw, .int .i64 a.pb] 24)) from ⟨(Has.made _ _ _).alloc _, ((Below.refl _ _).alloc (Nat.le_refl _) _).alloc (by simp) _⟩)
  clear ha
  unfold anC at X0 ⊢
  go_enter Try.func24, Try.ntmps24
  go_wp2_with (first | (go_at_call 47; (with_reducible refine (fits_1 _ _).mono ?_); rintro e w1 ⟨rfl, rfl⟩) | (go_at_call 47; (with_reducible refine (fits_4 _ _).mono ?_); rintro e w1 ⟨rfl, rfl⟩) | (go_at_call 47; (with_reducible refine (fits_6 _ _).mono ?_); rintro e w1 ⟨rfl, rfl⟩) | (go_at_call 47; (with_reducible refine (fits_2 _ _).mono ?_); rintro e w1 ⟨rfl, rfl⟩))
  go_ret
  exact ⟨rfl, X0.out.be⟩

set_option maxRecDepth 100000 in
set_option maxHeartbeats 1000000 in
theorem rmay_9 (a : An) (v : Value) (w : World) (ha : IsAn w v a) (d0 : decide (Fit a.kind 1) = true) (d1 : decide (Fit a.code 1) = true) (d2 : decide (Fit a.ver 4) = true) (d3 : decide (Fit a.pk 1) = true) (d4 : decide (Fit a.pl 4) = true) (d5 : decide (Fit a.pw 4) = true) (d6 : decide (Fit a.pb 1) = true) (d7 : decide (Fit a.now 6) = true) (d8 : decide (Fit a.count 2) = true) (d9 : 32 < a.told.length) :
    Calls Try.prog 24 #[v] w fun e w' => e = .returned (.bool false) ∧ Below w.heap.size w w' := by
  obtain ⟨A, ca, N, cn, rfl, ha⟩ := ha
  have HA := Lib.hid ha
  have bd : a.told.length ≤ maxLen ∧ a.names.length ≤ maxLen := ⟨Nat.le_trans ha.t1 ha.t2, Nat.le_trans ha.n1 ha.n2⟩
  unfold maxLen at bd
  obtain ⟨bd1, bd2⟩ := bd
  have X0 := Lib.hid (show OW (anC a A ca N cn) 43 w ((w.alloc (.cells (anC a A ca N cn).toArray 43)).alloc (.cells #[.int .i64 a.pk, .int .i64 a.pl, .int .i64 a.pw, .int .i64 a.pb] 24)) from ⟨(Has.made _ _ _).alloc _, ((Below.refl _ _).alloc (Nat.le_refl _) _).alloc (by simp) _⟩)
  clear ha
  unfold anC at X0 ⊢
  go_enter Try.func24, Try.ntmps24
  go_wp2_with (first | (go_at_call 47; (with_reducible refine (fits_1 _ _).mono ?_); rintro e w1 ⟨rfl, rfl⟩) | (go_at_call 47; (with_reducible refine (fits_4 _ _).mono ?_); rintro e w1 ⟨rfl, rfl⟩) | (go_at_call 47; (with_reducible refine (fits_6 _ _).mono ?_); rintro e w1 ⟨rfl, rfl⟩) | (go_at_call 47; (with_reducible refine (fits_2 _ _).mono ?_); rintro e w1 ⟨rfl, rfl⟩))
  go_ret
  exact ⟨rfl, X0.out.be⟩

set_option maxRecDepth 100000 in
set_option maxHeartbeats 1000000 in
theorem rmay_10 (a : An) (v : Value) (w : World) (ha : IsAn w v a) (d0 : decide (Fit a.kind 1) = true) (d1 : decide (Fit a.code 1) = true) (d2 : decide (Fit a.ver 4) = true) (d3 : decide (Fit a.pk 1) = true) (d4 : decide (Fit a.pl 4) = true) (d5 : decide (Fit a.pw 4) = true) (d6 : decide (Fit a.pb 1) = true) (d7 : decide (Fit a.now 6) = true) (d8 : decide (Fit a.count 2) = true) (d9 : a.told.length ≤ 32) (d10 : 32 < a.names.length) :
    Calls Try.prog 24 #[v] w fun e w' => e = .returned (.bool false) ∧ Below w.heap.size w w' := by
  obtain ⟨A, ca, N, cn, rfl, ha⟩ := ha
  have HA := Lib.hid ha
  have bd : a.told.length ≤ maxLen ∧ a.names.length ≤ maxLen := ⟨Nat.le_trans ha.t1 ha.t2, Nat.le_trans ha.n1 ha.n2⟩
  unfold maxLen at bd
  obtain ⟨bd1, bd2⟩ := bd
  have X0 := Lib.hid (show OW (anC a A ca N cn) 43 w ((w.alloc (.cells (anC a A ca N cn).toArray 43)).alloc (.cells #[.int .i64 a.pk, .int .i64 a.pl, .int .i64 a.pw, .int .i64 a.pb] 24)) from ⟨(Has.made _ _ _).alloc _, ((Below.refl _ _).alloc (Nat.le_refl _) _).alloc (by simp) _⟩)
  clear ha
  unfold anC at X0 ⊢
  go_enter Try.func24, Try.ntmps24
  go_wp2_with (first | (go_at_call 47; (with_reducible refine (fits_1 _ _).mono ?_); rintro e w1 ⟨rfl, rfl⟩) | (go_at_call 47; (with_reducible refine (fits_4 _ _).mono ?_); rintro e w1 ⟨rfl, rfl⟩) | (go_at_call 47; (with_reducible refine (fits_6 _ _).mono ?_); rintro e w1 ⟨rfl, rfl⟩) | (go_at_call 47; (with_reducible refine (fits_2 _ _).mono ?_); rintro e w1 ⟨rfl, rfl⟩))
  go_ret
  exact ⟨rfl, X0.out.be⟩

set_option maxRecDepth 100000 in
set_option maxHeartbeats 1000000 in
theorem rmay_11 (a : An) (v : Value) (w : World) (ha : IsAn w v a) (d0 : decide (Fit a.kind 1) = true) (d1 : decide (Fit a.code 1) = true) (d2 : decide (Fit a.ver 4) = true) (d3 : decide (Fit a.pk 1) = true) (d4 : decide (Fit a.pl 4) = true) (d5 : decide (Fit a.pw 4) = true) (d6 : decide (Fit a.pb 1) = true) (d7 : decide (Fit a.now 6) = true) (d8 : decide (Fit a.count 2) = true) (d9 : a.told.length ≤ 32) (d10 : a.names.length ≤ 32) :
    Calls Try.prog 24 #[v] w fun e w' => ∃ q : Bool, e = .returned (.bool q) ∧ (q = true ↔ (∀ t ∈ a.told, TdOk t) ∧ ∀ n ∈ a.names, NmOk n) ∧ Below w.heap.size w w' := by
  obtain ⟨A, ca, N, cn, rfl, ha⟩ := ha
  have HA := Lib.hid ha
  have bd : a.told.length ≤ maxLen ∧ a.names.length ≤ maxLen := ⟨Nat.le_trans ha.t1 ha.t2, Nat.le_trans ha.n1 ha.n2⟩
  unfold maxLen at bd
  obtain ⟨bd1, bd2⟩ := bd
  have X0 := Lib.hid (show OW (anC a A ca N cn) 43 w ((w.alloc (.cells (anC a A ca N cn).toArray 43)).alloc (.cells #[.int .i64 a.pk, .int .i64 a.pl, .int .i64 a.pw, .int .i64 a.pb] 24)) from ⟨(Has.made _ _ _).alloc _, ((Below.refl _ _).alloc (Nat.le_refl _) _).alloc (by simp) _⟩)
  clear ha
  unfold anC at X0 ⊢
  go_enter Try.func24, Try.ntmps24
  go_wp2_with (first | (go_at_call 47; (with_reducible refine (fits_1 _ _).mono ?_); rintro e w1 ⟨rfl, rfl⟩) | (go_at_call 47; (with_reducible refine (fits_4 _ _).mono ?_); rintro e w1 ⟨rfl, rfl⟩) | (go_at_call 47; (with_reducible refine (fits_6 _ _).mono ?_); rintro e w1 ⟨rfl, rfl⟩) | (go_at_call 47; (with_reducible refine (fits_2 _ _).mono ?_); rintro e w1 ⟨rfl, rfl⟩))
  go_loopw [4] (fun i wr => ∃ k : Nat, k ≤ a.told.length ∧ i = .int .i64 k ∧ OW (anC a A ca N cn) 43 w wr ∧ ∀ j t, j < k → a.told[j]? = some t → TdOk t) (fun i _ => a.told.length - (intOf i).toNat)
  case atStart => exact ⟨0, Nat.zero_le _, rfl, X0.out, fun j t hj => absurd hj (Nat.not_lt_zero _)⟩
  case round =>
    obtain ⟨i, hi, rfl, hx, hall⟩ := hrel
    have XR := Lib.hid hx
    have AL := Lib.hid hall
    clear hx hall
    have x2 := XR.out.x.cell 2
    have x10 := XR.out.x.cell 10
    simp [anC] at x2 x10
    by_cases hlt : i < a.told.length
    · have bel : Below w.heap.size w wr := XR.out.be
      obtain ⟨bb, off, e1, hb1, hy⟩ := ((HA.out.below bel).ts).get hlt
      obtain ⟨x, ex⟩ : ∃ x, x = a.told[i] := ⟨_, rfl⟩
      rw [← ex] at hy
      have EX := Lib.hid (show a.told[i]? = some x by rw [ex]; exact List.getElem?_eq_getElem hlt)
      have EM := Lib.hid (show x ∈ a.told by rw [ex]; exact List.getElem_mem _)
      have XA := Lib.hid (show OW (anC a A ca N cn) 43 w (wr.alloc (.cells #[.bool x.al, .int .i64 x.rem, .int .i64 x.ret, .int .i64 x.res] 68)) from ⟨XR.out.x.alloc _, XR.out.be.alloc XR.out.be.size _⟩)
      subst e1
      have u0 := hy 0 _ rfl
      have u1 := hy 1 _ rfl
      have u2 := hy 2 _ rfl
      have u3 := hy 3 _ rfl
      have u4 := hy 4 _ rfl
      simp at u0 u1 u2 u3 u4
      have u5 : wr.cell? ⟨bb, off + i * 5 + 1 + 1, none⟩ = some (.int .i64 x.rem) := u2
      have u6 : wr.cell? ⟨bb, off + i * 5 + 1 + 2, none⟩ = some (.int .i64 x.ret) := u3
      have u7 : wr.cell? ⟨bb, off + i * 5 + 1 + 3, none⟩ = some (.int .i64 x.res) := u4
      have g1 := XR.out.x.lt
      clear hy ex bel
      by_cases t0 : Fit x.code 1
      · have q0 : decide (Fit x.code 1) = true := by simp [t0]
        by_cases t1 : Fit x.rem 4
        · have q1 : decide (Fit x.rem 4) = true := by simp [t1]
          by_cases t2 : Fit x.ret 6
          · have q2 : decide (Fit x.ret 6) = true := by simp [t2]
            by_cases t3 : Fit x.res 6
            · have q3 : decide (Fit x.res 6) = true := by simp [t3]
              have TX := Lib.hid (show TdOk x from ⟨t0, t1, t2, t3⟩)
              clear t0 t1 t2 t3
              go_wp2_with (first | (go_at_call 47; (with_reducible refine (fits_1 _ _).mono ?_); rintro e w1 ⟨rfl, rfl⟩) | (go_at_call 47; (with_reducible refine (fits_4 _ _).mono ?_); rintro e w1 ⟨rfl, rfl⟩) | (go_at_call 47; (with_reducible refine (fits_6 _ _).mono ?_); rintro e w1 ⟨rfl, rfl⟩) | (go_at_call 47; (with_reducible refine (fits_2 _ _).mono ?_); rintro e w1 ⟨rfl, rfl⟩))
              go_roundw
              case rel =>
                refine ⟨i + 1, by omega, by go_num, XA.out, fun j t hj ht => ?_⟩
                by_cases e : j = i
                · rw [e, EX.out] at ht
                  rw [← Option.some.inj ht]; exact TX.out
                · exact AL.out j t (by omega) ht
              case measure => simp [intOf]; omega
            · have q3 : decide (Fit x.res 6) = false := by simp [t3]
              have R := Lib.hid (show ¬ ((∀ t ∈ a.told, TdOk t) ∧ ∀ n ∈ a.names, NmOk n) from fun e => t3 (e.1 x EM.out).2.2.2)
              clear t0 t1 t2 t3
              go_wp2_with (first | (go_at_call 47; (with_reducible refine (fits_1 _ _).mono ?_); rintro e w1 ⟨rfl, rfl⟩) | (go_at_call 47; (with_reducible refine (fits_4 _ _).mono ?_); rintro e w1 ⟨rfl, rfl⟩) | (go_at_call 47; (with_reducible refine (fits_6 _ _).mono ?_); rintro e w1 ⟨rfl, rfl⟩) | (go_at_call 47; (with_reducible refine (fits_2 _ _).mono ?_); rintro e w1 ⟨rfl, rfl⟩))
              go_ret
              exact ⟨false, rfl, ⟨fun e => (by cases e), fun e => absurd e R.out⟩, XA.out.be⟩
          · have q2 : decide (Fit x.ret 6) = false := by simp [t2]
            have R := Lib.hid (show ¬ ((∀ t ∈ a.told, TdOk t) ∧ ∀ n ∈ a.names, NmOk n) from fun e => t2 (e.1 x EM.out).2.2.1)
            clear t0 t1 t2
            go_wp2_with (first | (go_at_call 47; (with_reducible refine (fits_1 _ _).mono ?_); rintro e w1 ⟨rfl, rfl⟩) | (go_at_call 47; (with_reducible refine (fits_4 _ _).mono ?_); rintro e w1 ⟨rfl, rfl⟩) | (go_at_call 47; (with_reducible refine (fits_6 _ _).mono ?_); rintro e w1 ⟨rfl, rfl⟩) | (go_at_call 47; (with_reducible refine (fits_2 _ _).mono ?_); rintro e w1 ⟨rfl, rfl⟩))
            go_ret
            exact ⟨false, rfl, ⟨fun e => (by cases e), fun e => absurd e R.out⟩, XA.out.be⟩
        · have q1 : decide (Fit x.rem 4) = false := by simp [t1]
          have R := Lib.hid (show ¬ ((∀ t ∈ a.told, TdOk t) ∧ ∀ n ∈ a.names, NmOk n) from fun e => t1 (e.1 x EM.out).2.1)
          clear t0 t1
          go_wp2_with (first | (go_at_call 47; (with_reducible refine (fits_1 _ _).mono ?_); rintro e w1 ⟨rfl, rfl⟩) | (go_at_call 47; (with_reducible refine (fits_4 _ _).mono ?_); rintro e w1 ⟨rfl, rfl⟩) | (go_at_call 47; (with_reducible refine (fits_6 _ _).mono ?_); rintro e w1 ⟨rfl, rfl⟩) | (go_at_call 47; (with_reducible refine (fits_2 _ _).mono ?_); rintro e w1 ⟨rfl, rfl⟩))
          go_ret
          exact ⟨false, rfl, ⟨fun e => (by cases e), fun e => absurd e R.out⟩, XA.out.be⟩
      · have q0 : decide (Fit x.code 1) = false := by simp [t0]
        have R := Lib.hid (show ¬ ((∀ t ∈ a.told, TdOk t) ∧ ∀ n ∈ a.names, NmOk n) from fun e => t0 (e.1 x EM.out).1)
        clear t0
        go_wp2_with (first | (go_at_call 47; (with_reducible refine (fits_1 _ _).mono ?_); rintro e w1 ⟨rfl, rfl⟩) | (go_at_call 47; (with_reducible refine (fits_4 _ _).mono ?_); rintro e w1 ⟨rfl, rfl⟩) | (go_at_call 47; (with_reducible refine (fits_6 _ _).mono ?_); rintro e w1 ⟨rfl, rfl⟩) | (go_at_call 47; (with_reducible refine (fits_2 _ _).mono ?_); rintro e w1 ⟨rfl, rfl⟩))
        go_ret
        exact ⟨false, rfl, ⟨fun e => (by cases e), fun e => absurd e R.out⟩, XA.out.be⟩
    · obtain rfl : i = a.told.length := by omega
      have ET := Lib.hid (show ∀ t ∈ a.told, TdOk t from fun t ht => by
        obtain ⟨j, hj, e⟩ := List.mem_iff_getElem.1 ht
        exact AL.out j t hj (by rw [List.getElem?_eq_getElem hj, e]))
      clear AL
      go_wp2_with fail
      go_loopw [6] (fun i wr => ∃ k : Nat, k ≤ a.names.length ∧ i = .int .i64 k ∧ OW (anC a A ca N cn) 43 w wr ∧ ∀ j t, j < k → a.names[j]? = some t → NmOk t) (fun i _ => a.names.length - (intOf i).toNat)
      case atStart => exact ⟨0, Nat.zero_le _, rfl, XR.out, fun j t hj => absurd hj (Nat.not_lt_zero _)⟩
      case round =>
        obtain ⟨i, hi, rfl, hx, hall⟩ := hrel
        have XR := Lib.hid hx
        have AL := Lib.hid hall
        clear hx hall
        have x10 := XR.out.x.cell 10
        simp [anC] at x10
        by_cases hlt : i < a.names.length
        · have bel : Below w.heap.size w wr := XR.out.be
          obtain ⟨bb, off, e1, hb1, hy⟩ := ((HA.out.below bel).ns).get hlt
          obtain ⟨x, ex⟩ : ∃ x, x = a.names[i] := ⟨_, rfl⟩
          have KS := HA.out.ks a.names[i] (List.getElem_mem _)
          rw [← ex] at hy KS
          unfold maxLen at KS
          have EX := Lib.hid (show a.names[i]? = some x by rw [ex]; exact List.getElem?_eq_getElem hlt)
          have EM := Lib.hid (show x ∈ a.names by rw [ex]; exact List.getElem_mem _)
          subst e1
          have u0 := hy 0 _ rfl
          have u1 := hy 1 _ rfl
          simp at u0 u1
          clear hy ex bel
          by_cases t0 : Fit x.book 1
          · have q0 : decide (Fit x.book 1) = true := by simp [t0]
            by_cases t1 : x.key.size ≤ 255
            · have TX := Lib.hid (show NmOk x from ⟨t0, t1⟩)
              clear t0
              go_wp2_with (first | (go_at_call 47; (with_reducible refine (fits_1 _ _).mono ?_); rintro e w1 ⟨rfl, rfl⟩) | (go_at_call 47; (with_reducible refine (fits_4 _ _).mono ?_); rintro e w1 ⟨rfl, rfl⟩) | (go_at_call 47; (with_reducible refine (fits_6 _ _).mono ?_); rintro e w1 ⟨rfl, rfl⟩) | (go_at_call 47; (with_reducible refine (fits_2 _ _).mono ?_); rintro e w1 ⟨rfl, rfl⟩))
              go_roundw
              case rel =>
                refine ⟨i + 1, by omega, by go_num, XR.out, fun j t hj ht => ?_⟩
                by_cases e : j = i
                · rw [e, EX.out] at ht
                  rw [← Option.some.inj ht]; exact TX.out
                · exact AL.out j t (by omega) ht
              case measure => simp [intOf]; omega
            · have R := Lib.hid (show ¬ ((∀ t ∈ a.told, TdOk t) ∧ ∀ n ∈ a.names, NmOk n) from fun e => t1 (e.2 x EM.out).2)
              clear t0
              go_wp2_with (first | (go_at_call 47; (with_reducible refine (fits_1 _ _).mono ?_); rintro e w1 ⟨rfl, rfl⟩) | (go_at_call 47; (with_reducible refine (fits_4 _ _).mono ?_); rintro e w1 ⟨rfl, rfl⟩) | (go_at_call 47; (with_reducible refine (fits_6 _ _).mono ?_); rintro e w1 ⟨rfl, rfl⟩) | (go_at_call 47; (with_reducible refine (fits_2 _ _).mono ?_); rintro e w1 ⟨rfl, rfl⟩))
              go_ret
              exact ⟨false, rfl, ⟨fun e => (by cases e), fun e => absurd e R.out⟩, XR.out.be⟩
          · have q0 : decide (Fit x.book 1) = false := by simp [t0]
            have R := Lib.hid (show ¬ ((∀ t ∈ a.told, TdOk t) ∧ ∀ n ∈ a.names, NmOk n) from fun e => t0 (e.2 x EM.out).1)
            clear t0
            go_wp2_with (first | (go_at_call 47; (with_reducible refine (fits_1 _ _).mono ?_); rintro e w1 ⟨rfl, rfl⟩) | (go_at_call 47; (with_reducible refine (fits_4 _ _).mono ?_); rintro e w1 ⟨rfl, rfl⟩) | (go_at_call 47; (with_reducible refine (fits_6 _ _).mono ?_); rintro e w1 ⟨rfl, rfl⟩) | (go_at_call 47; (with_reducible refine (fits_2 _ _).mono ?_); rintro e w1 ⟨rfl, rfl⟩))
            go_ret
            exact ⟨false, rfl, ⟨fun e => (by cases e), fun e => absurd e R.out⟩, XR.out.be⟩
        · obtain rfl : i = a.names.length := by omega
          have EN := Lib.hid (show ∀ t ∈ a.names, NmOk t from fun t ht => by
            obtain ⟨j, hj, e⟩ := List.mem_iff_getElem.1 ht
            exact AL.out j t hj (by rw [List.getElem?_eq_getElem hj, e]))
          clear AL
          go_wp2
          go_ret
          exact ⟨true, rfl, ⟨fun _ => ⟨ET.out, EN.out⟩, fun _ => rfl⟩, XR.out.be⟩

theorem rMay_any (a : An) (v : Value) (w : World) (ha : IsAn w v a) :
    Calls Try.prog 24 #[v] w fun e w' => e = .returned (.bool (decide (AnOk a))) ∧ Below w.heap.size w w' := by
  have no : ∀ (e : Ending) (w' : World), (e = .returned (.bool false) ∧ Below w.heap.size w w') → ¬ AnOk a → e = .returned (.bool (decide (AnOk a))) ∧ Below w.heap.size w w' := by
    rintro e w' ⟨rfl, h⟩ hn
    exact ⟨by simp [hn], h⟩
  have t : ∀ {p : Prop} [Decidable p], p → decide p = true := fun h => by simp [h]
  have f : ∀ {p : Prop} [Decidable p], ¬ p → decide p = false := fun h => by simp [h]
  by_cases e0 : Fit a.kind 1
  case neg => exact (rmay_0 a v w ha (f e0)).mono fun e w' h => no e w' h (fun q => e0 q.kind)
  by_cases e1 : Fit a.code 1
  case neg => exact (rmay_1 a v w ha (t e0) (f e1)).mono fun e w' h => no e w' h (fun q => e1 q.code)
  by_cases e2 : Fit a.ver 4
  case neg => exact (rmay_2 a v w ha (t e0) (t e1) (f e2)).mono fun e w' h => no e w' h (fun q => e2 q.ver)
  by_cases e3 : Fit a.pk 1
  case neg => exact (rmay_3 a v w ha (t e0) (t e1) (t e2) (f e3)).mono fun e w' h => no e w' h (fun q => e3 q.pk)
  by_cases e4 : Fit a.pl 4
  case neg => exact (rmay_4 a v w ha (t e0) (t e1) (t e2) (t e3) (f e4)).mono fun e w' h => no e w' h (fun q => e4 q.pl)
  by_cases e5 : Fit a.pw 4
  case neg => exact (rmay_5 a v w ha (t e0) (t e1) (t e2) (t e3) (t e4) (f e5)).mono fun e w' h => no e w' h (fun q => e5 q.pw)
  by_cases e6 : Fit a.pb 1
  case neg => exact (rmay_6 a v w ha (t e0) (t e1) (t e2) (t e3) (t e4) (t e5) (f e6)).mono fun e w' h => no e w' h (fun q => e6 q.pb)
  by_cases e7 : Fit a.now 6
  case neg => exact (rmay_7 a v w ha (t e0) (t e1) (t e2) (t e3) (t e4) (t e5) (t e6) (f e7)).mono fun e w' h => no e w' h (fun q => e7 q.now)
  by_cases e8 : Fit a.count 2
  case neg => exact (rmay_8 a v w ha (t e0) (t e1) (t e2) (t e3) (t e4) (t e5) (t e6) (t e7) (f e8)).mono fun e w' h => no e w' h (fun q => e8 q.count)
  by_cases e9 : a.told.length ≤ 32
  case neg => exact (rmay_9 a v w ha (t e0) (t e1) (t e2) (t e3) (t e4) (t e5) (t e6) (t e7) (t e8) (by omega)).mono fun e w' h => no e w' h (fun q => e9 q.told)
  by_cases e10 : a.names.length ≤ 32
  case neg => exact (rmay_10 a v w ha (t e0) (t e1) (t e2) (t e3) (t e4) (t e5) (t e6) (t e7) (t e8) e9 (by omega)).mono fun e w' h => no e w' h (fun q => e10 q.names)
  refine (rmay_11 a v w ha (t e0) (t e1) (t e2) (t e3) (t e4) (t e5) (t e6) (t e7) (t e8) e9 e10).mono ?_
  rintro e w' ⟨q, rfl, hq, hb⟩
  refine ⟨ret_bool (q_dec (hq.trans ⟨fun h => ⟨e0, e1, e2, e3, e4, e5, e6, e7, e8, e9, e10, h.1, h.2⟩, fun h => ⟨h.tds, h.nms⟩⟩)), hb⟩
end Go.Proofs.Ytljllfopgpmekab
