/- The contracts of gcra.Ask. WRITTEN BY gen_gc3.py. -/
import Derived.Test.YtdmephlappmmdaaGc2
import Derived.Test.YtdmephlappmmdaaMem
import Derived.Deep.DeepCutAuto
-- prune
namespace Go.Proofs.Ytdmephlappmmdaa
open Go.ChangeShapes Go.WideShapes Go.ChangeAt Go.RowKit
set_option linter.unusedVariables false

/-- A policy, a cell and the two results, in four new blocks. -/
structure AskAt (w0 : World) (k l v b a n : Int) (x y : Value) (w : World) : Prop where
  pc : PC w0 k l v b a n x y w
  rc : Has w (w0.heap.size + 1 + 1) 27 [.int .i64 0, .int .i64 0, .slice none 0 0, .slice none 0 0]
  rv : Has w (w0.heap.size + 1 + 1 + 1) 32 [.bool false, .int .i64 0, .int .i64 0, .int .i64 0]
theorem AskAt.made (w : World) (k l v b a n : Int) (x y : Value) : AskAt w k l v b a n x y ((((w.alloc (.cells #[.int .i64 k, .int .i64 l, .int .i64 v, .int .i64 b] 23)).alloc (.cells #[.int .i64 a, .int .i64 n, x, y] 27)).alloc (.cells #[.int .i64 0, .int .i64 0, .slice none 0 0, .slice none 0 0] 27)).alloc (.cells #[.bool false, .int .i64 0, .int .i64 0, .int .i64 0] 32)) := by
  refine ⟨((PC.made w k l v b a n x y _ _).alloc _).alloc _, ?_, ?_⟩
  · refine Has.alloc ?_ _
    have := Has.made ((w.alloc (.cells #[.int .i64 k, .int .i64 l, .int .i64 v, .int .i64 b] 23)).alloc (.cells #[.int .i64 a, .int .i64 n, x, y] 27)) 27 [.int .i64 0, .int .i64 0, .slice none 0 0, .slice none 0 0]
    simpa using this
  · have := Has.made (((w.alloc (.cells #[.int .i64 k, .int .i64 l, .int .i64 v, .int .i64 b] 23)).alloc (.cells #[.int .i64 a, .int .i64 n, x, y] 27)).alloc (.cells #[.int .i64 0, .int .i64 0, .slice none 0 0, .slice none 0 0] 27)) 32 [.bool false, .int .i64 0, .int .i64 0, .int .i64 0]
    simpa using this
theorem AskAt.step {w0 w w' : World} {k l v b a n : Int} {x y : Value} (h : AskAt w0 k l v b a n x y w) (hb : Below w.heap.size w w') : AskAt w0 k l v b a n x y w' :=
  ⟨h.pc.step hb, h.rc.below hb h.rc.lt, h.rv.below hb h.rv.lt⟩
theorem AskAt.drew {w0 w : World} {k l v b a n : Int} {x y : Value} (h : AskAt w0 k l v b a n x y w) : AskAt w0 k l v b a n x y w.drew := ⟨h.pc.drew, h.rc, h.rv⟩
theorem AskAt.drewN {w0 w : World} {k l v b a n : Int} {x y : Value} (h : AskAt w0 k l v b a n x y w) (m : Nat) : AskAt w0 k l v b a n x y (w.drewN m) := ⟨h.pc.drewN m, h.rc, h.rv⟩
theorem AskAt.alloc {w0 w : World} {k l v b a n : Int} {x y : Value} (h : AskAt w0 k l v b a n x y w) (o : Obj) : AskAt w0 k l v b a n x y (w.alloc o) := h.step ((Below.refl _ _).alloc (Nat.le_refl _) o)
theorem AskAt.res {w0 w : World} {k l v b a n : Int} {x y : Value} (h : AskAt w0 k l v b a n x y w) :
    w.cell? ⟨w0.heap.size + 1 + 1, 0, none⟩ = some (.int .i64 0) ∧ w.cell? ⟨w0.heap.size + 1 + 1, 1, none⟩ = some (.int .i64 0) ∧ w.cell? ⟨w0.heap.size + 1 + 1, 2, none⟩ = some (.slice none 0 0) ∧ w.cell? ⟨w0.heap.size + 1 + 1, 3, none⟩ = some (.slice none 0 0) ∧
    w.cell? ⟨w0.heap.size + 1 + 1 + 1, 0, none⟩ = some (.bool false) ∧ w.cell? ⟨w0.heap.size + 1 + 1 + 1, 1, none⟩ = some (.int .i64 0) ∧ w.cell? ⟨w0.heap.size + 1 + 1 + 1, 2, none⟩ = some (.int .i64 0) ∧ w.cell? ⟨w0.heap.size + 1 + 1 + 1, 3, none⟩ = some (.int .i64 0) ∧
    (∀ i, w.frozen? ⟨w0.heap.size + 1 + 1, i, none⟩ = false) ∧ (∀ i, w.frozen? ⟨w0.heap.size + 1 + 1 + 1, i, none⟩ = false) :=
  ⟨h.rc.cell 0, h.rc.cell 1, h.rc.cell 2, h.rc.cell 3, h.rv.cell 0, h.rv.cell 1, h.rv.cell 2, h.rv.cell 3, h.rc.loose, h.rv.loose⟩
theorem le2 (n : Nat) : n ≤ n + 1 + 1 := by omega
theorem le3 (n : Nat) : n ≤ n + 1 + 1 + 1 := by omega
/-- What is stored into the two results. -/
theorem AskAt.put {w0 w : World} {k l v b a n : Int} {x y : Value} (h : AskAt w0 k l v b a n x y w) (c0 c1 c2 c3 v0 v1 v2 v3 : Value) :
    Below w0.heap.size w0 ((((((((w.setCell ⟨w0.heap.size + 1 + 1, 0, none⟩ c0).setCell ⟨w0.heap.size + 1 + 1, 1, none⟩ c1).setCell ⟨w0.heap.size + 1 + 1, 2, none⟩ c2).setCell ⟨w0.heap.size + 1 + 1, 3, none⟩ c3).setCell ⟨w0.heap.size + 1 + 1 + 1, 0, none⟩ v0).setCell ⟨w0.heap.size + 1 + 1 + 1, 1, none⟩ v1).setCell ⟨w0.heap.size + 1 + 1 + 1, 2, none⟩ v2).setCell ⟨w0.heap.size + 1 + 1 + 1, 3, none⟩ v3) :=
  (((((((h.pc.be.setCell (p := ⟨_, 0, none⟩) (le2 _) _).setCell (p := ⟨_, 1, none⟩) (le2 _) _).setCell (p := ⟨_, 2, none⟩) (le2 _) _).setCell (p := ⟨_, 3, none⟩) (le2 _) _).setCell (p := ⟨_, 0, none⟩) (le3 _) _).setCell (p := ⟨_, 1, none⟩) (le3 _) _).setCell (p := ⟨_, 2, none⟩) (le3 _) _).setCell (p := ⟨_, 3, none⟩) (le3 _) _

set_option maxRecDepth 100000 in
set_option maxHeartbeats 1000000 in
theorem Ask_n0 (k l v b a n t m : Int) (sa ha : Option Addr) (sn sc hn hc : Nat) (w : World) (h : ¬ MayG k l v b a n sn hn) :
    Calls Try.prog 10 #[.agg #[.int .i64 k, .int .i64 l, .int .i64 v, .int .i64 b], .agg #[.int .i64 a, .int .i64 n, .slice sa sn sc, .slice ha hn hc], .int .i64 t, .int .i64 m] w fun e w' => e = .returned (.tuple #[.agg #[.int .i64 a, .int .i64 n, .slice sa sn sc, .slice ha hn hc], .agg #[.bool false, .int .i64 0, .int .i64 0, .int .i64 0]]) ∧ Below w.heap.size w w' := by
  have MK := Lib.hid (fun u => May_no k l v b a n sa ha sn sc hn hc u h)
  have HP := Lib.hid (AskAt.made w k l v b a n (.slice sa sn sc) (.slice ha hn hc))
  clear h
  go_enter Try.func10, Try.ntmps10
  go_wp2_with fail
  refine (MK.out _).mono ?_; rintro e w1 ⟨rfl, hb⟩
  have hp := HP.out.step hb
  have z0 := hp.pc.p0
  have z4 := hp.pc.c0
  have z1 := hp.pc.p1
  have z5 := hp.pc.c1
  have z2 := hp.pc.p2
  have z6 := hp.pc.c2
  have z3 := hp.pc.p3
  have z7 := hp.pc.c3
  obtain ⟨r0, r1, r2, r3, r4, r5, r6, r7, r8, r9⟩ := hp.res
  have HQ := Lib.hid hp
  clear hp hb HP MK
  go_wp2_with fail
  exact bodyPost_ret (v := .tuple #[.agg #[.int .i64 a, .int .i64 n, .slice sa sn sc, .slice ha hn hc], .agg #[.bool false, .int .i64 0, .int .i64 0, .int .i64 0]]) (by simp [results, Try.results10, go_sem, r0, r1, r2, r3, r4, r5, r6, r7]) rfl ⟨rfl, HQ.out.put _ _ _ _ _ _ _ _⟩

set_option maxRecDepth 100000 in
set_option maxHeartbeats 1000000 in
theorem Ask_n1 (k l v b a n t m : Int) (sa ha : Option Addr) (sn sc hn hc : Nat) (w : World) (h : MayG k l v b a n sn hn) (ht : ¬ (0 ≤ t ∧ t ≤ 1099511627776)) :
    Calls Try.prog 10 #[.agg #[.int .i64 k, .int .i64 l, .int .i64 v, .int .i64 b], .agg #[.int .i64 a, .int .i64 n, .slice sa sn sc, .slice ha hn hc], .int .i64 t, .int .i64 m] w fun e w' => e = .returned (.tuple #[.agg #[.int .i64 a, .int .i64 n, .slice sa sn sc, .slice ha hn hc], .agg #[.bool false, .int .i64 0, .int .i64 0, .int .i64 0]]) ∧ Below w.heap.size w w' := by
  have MK := Lib.hid (fun u => May_yes k l v b a n sa ha sn sc hn hc u h)
  have TK := Lib.hid (fun u => isTick_no t u ht)
  have HP := Lib.hid (AskAt.made w k l v b a n (.slice sa sn sc) (.slice ha hn hc))
  clear h ht
  go_enter Try.func10, Try.ntmps10
  go_wp2_with fail
  refine (MK.out _).mono ?_; rintro e w1 ⟨rfl, hb⟩
  have hp := HP.out.step hb
  have z0 := hp.pc.p0
  have z4 := hp.pc.c0
  have z1 := hp.pc.p1
  have z5 := hp.pc.c1
  have z2 := hp.pc.p2
  have z6 := hp.pc.c2
  have z3 := hp.pc.p3
  have z7 := hp.pc.c3
  obtain ⟨r0, r1, r2, r3, r4, r5, r6, r7, r8, r9⟩ := hp.res
  have HQ := Lib.hid hp
  clear hp hb HP MK
  go_wp2_with fail
  refine (TK.out _).mono ?_; rintro e w' ⟨rfl, rfl⟩
  go_wp2_with fail
  exact bodyPost_ret (v := .tuple #[.agg #[.int .i64 a, .int .i64 n, .slice sa sn sc, .slice ha hn hc], .agg #[.bool false, .int .i64 0, .int .i64 0, .int .i64 0]]) (by simp [results, Try.results10, go_sem, r0, r1, r2, r3, r4, r5, r6, r7]) rfl ⟨rfl, HQ.out.put _ _ _ _ _ _ _ _⟩

set_option maxRecDepth 100000 in
set_option maxHeartbeats 1000000 in
theorem Ask_n2 (k l v b a n t m : Int) (sa ha : Option Addr) (sn sc hn hc : Nat) (w : World) (h : MayG k l v b a n sn hn) (t1 : 0 ≤ t) (t2 : t ≤ 1099511627776) (hw : ¬ (1 ≤ m ∧ m ≤ 1048576)) :
    Calls Try.prog 10 #[.agg #[.int .i64 k, .int .i64 l, .int .i64 v, .int .i64 b], .agg #[.int .i64 a, .int .i64 n, .slice sa sn sc, .slice ha hn hc], .int .i64 t, .int .i64 m] w fun e w' => e = .returned (.tuple #[.agg #[.int .i64 a, .int .i64 n, .slice sa sn sc, .slice ha hn hc], .agg #[.bool false, .int .i64 0, .int .i64 0, .int .i64 0]]) ∧ Below w.heap.size w w' := by
  have MK := Lib.hid (fun u => May_yes k l v b a n sa ha sn sc hn hc u h)
  have TK := Lib.hid (fun u => isTick_yes t u t1 t2)
  have WK := Lib.hid (fun u => Weighs_no m u hw)
  have HP := Lib.hid (AskAt.made w k l v b a n (.slice sa sn sc) (.slice ha hn hc))
  clear h hw
  go_enter Try.func10, Try.ntmps10
  go_wp2_with fail
  refine (MK.out _).mono ?_; rintro e w1 ⟨rfl, hb⟩
  have hp := HP.out.step hb
  have z0 := hp.pc.p0
  have z4 := hp.pc.c0
  have z1 := hp.pc.p1
  have z5 := hp.pc.c1
  have z2 := hp.pc.p2
  have z6 := hp.pc.c2
  have z3 := hp.pc.p3
  have z7 := hp.pc.c3
  obtain ⟨r0, r1, r2, r3, r4, r5, r6, r7, r8, r9⟩ := hp.res
  have HQ := Lib.hid hp
  clear hp hb HP MK
  go_wp2_with fail
  refine (TK.out _).mono ?_; rintro e w' ⟨rfl, rfl⟩
  go_wp2_with fail
  refine (WK.out _).mono ?_; rintro e w' ⟨rfl, rfl⟩
  go_wp2_with fail
  exact bodyPost_ret (v := .tuple #[.agg #[.int .i64 a, .int .i64 n, .slice sa sn sc, .slice ha hn hc], .agg #[.bool false, .int .i64 0, .int .i64 0, .int .i64 0]]) (by simp [results, Try.results10, go_sem, r0, r1, r2, r3, r4, r5, r6, r7]) rfl ⟨rfl, HQ.out.put _ _ _ _ _ _ _ _⟩

set_option maxRecDepth 100000 in
set_option maxHeartbeats 1000000 in
theorem rAsk_n0 (k l v b a n t m : Int) (sa ha : Option Addr) (sn sc hn hc : Nat) (w : World) (h : ¬ MayG k l v b a n sn hn) :
    Calls Try.prog 11 #[.agg #[.int .i64 k, .int .i64 l, .int .i64 v, .int .i64 b], .agg #[.int .i64 a, .int .i64 n, .slice sa sn sc, .slice ha hn hc], .int .i64 t, .int .i64 m] w fun e w' => e = .returned (.tuple #[.agg #[.int .i64 a, .int .i64 n, .slice sa sn sc, .slice ha hn hc], .agg #[.bool false, .int .i64 0, .int .i64 0, .int .i64 0]]) ∧ Below w.heap.size w w' := by
  have MK := Lib.hid (fun u => rMay_no k l v b a n sa ha sn sc hn hc u h)
  have HP := Lib.hid (AskAt.made w k l v b a n (.slice sa sn sc) (.slice ha hn hc))
  clear h
  go_enter Try.func11, Try.ntmps11
  go_wp2_with fail
  refine (MK.out _).mono ?_; rintro e w1 ⟨rfl, hb⟩
  have hp := HP.out.step hb
  have z0 := hp.pc.p0
  have z4 := hp.pc.c0
  have z1 := hp.pc.p1
  have z5 := hp.pc.c1
  have z2 := hp.pc.p2
  have z6 := hp.pc.c2
  have z3 := hp.pc.p3
  have z7 := hp.pc.c3
  obtain ⟨r0, r1, r2, r3, r4, r5, r6, r7, r8, r9⟩ := hp.res
  have HQ := Lib.hid hp
  clear hp hb HP MK
  go_wp2_with fail
  exact bodyPost_ret (v := .tuple #[.agg #[.int .i64 a, .int .i64 n, .slice sa sn sc, .slice ha hn hc], .agg #[.bool false, .int .i64 0, .int .i64 0, .int .i64 0]]) (by simp [results, Try.results11, go_sem, r0, r1, r2, r3, r4, r5, r6, r7]) rfl ⟨rfl, HQ.out.put _ _ _ _ _ _ _ _⟩

set_option maxRecDepth 100000 in
set_option maxHeartbeats 1000000 in
theorem rAsk_n1 (k l v b a n t m : Int) (sa ha : Option Addr) (sn sc hn hc : Nat) (w : World) (h : MayG k l v b a n sn hn) (ht : ¬ (0 ≤ t ∧ t ≤ 1099511627776)) :
    Calls Try.prog 11 #[.agg #[.int .i64 k, .int .i64 l, .int .i64 v, .int .i64 b], .agg #[.int .i64 a, .int .i64 n, .slice sa sn sc, .slice ha hn hc], .int .i64 t, .int .i64 m] w fun e w' => e = .returned (.tuple #[.agg #[.int .i64 a, .int .i64 n, .slice sa sn sc, .slice ha hn hc], .agg #[.bool false, .int .i64 0, .int .i64 0, .int .i64 0]]) ∧ Below w.heap.size w w' := by
  have MK := Lib.hid (fun u => rMay_yes k l v b a n sa ha sn sc hn hc u h)
  have TK := Lib.hid (fun u => rTime_no t u ht)
  have HP := Lib.hid (AskAt.made w k l v b a n (.slice sa sn sc) (.slice ha hn hc))
  clear h ht
  go_enter Try.func11, Try.ntmps11
  go_wp2_with fail
  refine (MK.out _).mono ?_; rintro e w1 ⟨rfl, hb⟩
  have hp := HP.out.step hb
  have z0 := hp.pc.p0
  have z4 := hp.pc.c0
  have z1 := hp.pc.p1
  have z5 := hp.pc.c1
  have z2 := hp.pc.p2
  have z6 := hp.pc.c2
  have z3 := hp.pc.p3
  have z7 := hp.pc.c3
  obtain ⟨r0, r1, r2, r3, r4, r5, r6, r7, r8, r9⟩ := hp.res
  have HQ := Lib.hid hp
  clear hp hb HP MK
  go_wp2_with fail
  refine (TK.out _).mono ?_; rintro e w' ⟨rfl, rfl⟩
  go_wp2_with fail
  exact bodyPost_ret (v := .tuple #[.agg #[.int .i64 a, .int .i64 n, .slice sa sn sc, .slice ha hn hc], .agg #[.bool false, .int .i64 0, .int .i64 0, .int .i64 0]]) (by simp [results, Try.results11, go_sem, r0, r1, r2, r3, r4, r5, r6, r7]) rfl ⟨rfl, HQ.out.put _ _ _ _ _ _ _ _⟩

set_option maxRecDepth 100000 in
set_option maxHeartbeats 1000000 in
theorem rAsk_n2 (k l v b a n t m : Int) (sa ha : Option Addr) (sn sc hn hc : Nat) (w : World) (h : MayG k l v b a n sn hn) (t1 : 0 ≤ t) (t2 : t ≤ 1099511627776) (hw : ¬ (1 ≤ m ∧ m ≤ 1048576)) :
    Calls Try.prog 11 #[.agg #[.int .i64 k, .int .i64 l, .int .i64 v, .int .i64 b], .agg #[.int .i64 a, .int .i64 n, .slice sa sn sc, .slice ha hn hc], .int .i64 t, .int .i64 m] w fun e w' => e = .returned (.tuple #[.agg #[.int .i64 a, .int .i64 n, .slice sa sn sc, .slice ha hn hc], .agg #[.bool false, .int .i64 0, .int .i64 0, .int .i64 0]]) ∧ Below w.heap.size w w' := by
  have MK := Lib.hid (fun u => rMay_yes k l v b a n sa ha sn sc hn hc u h)
  have TK := Lib.hid (fun u => rTime_yes t u t1 t2)
  have WK := Lib.hid (fun u => rWeighs_no m u hw)
  have HP := Lib.hid (AskAt.made w k l v b a n (.slice sa sn sc) (.slice ha hn hc))
  clear h hw
  go_enter Try.func11, Try.ntmps11
  go_wp2_with fail
  refine (MK.out _).mono ?_; rintro e w1 ⟨rfl, hb⟩
  have hp := HP.out.step hb
  have z0 := hp.pc.p0
  have z4 := hp.pc.c0
  have z1 := hp.pc.p1
  have z5 := hp.pc.c1
  have z2 := hp.pc.p2
  have z6 := hp.pc.c2
  have z3 := hp.pc.p3
  have z7 := hp.pc.c3
  obtain ⟨r0, r1, r2, r3, r4, r5, r6, r7, r8, r9⟩ := hp.res
  have HQ := Lib.hid hp
  clear hp hb HP MK
  go_wp2_with fail
  refine (TK.out _).mono ?_; rintro e w' ⟨rfl, rfl⟩
  go_wp2_with fail
  refine (WK.out _).mono ?_; rintro e w' ⟨rfl, rfl⟩
  go_wp2_with fail
  exact bodyPost_ret (v := .tuple #[.agg #[.int .i64 a, .int .i64 n, .slice sa sn sc, .slice ha hn hc], .agg #[.bool false, .int .i64 0, .int .i64 0, .int .i64 0]]) (by simp [results, Try.results11, go_sem, r0, r1, r2, r3, r4, r5, r6, r7]) rfl ⟨rfl, HQ.out.put _ _ _ _ _ _ _ _⟩

/-- An ask that may be. -/
def MayA (k l v b a n t m : Int) (sn hn : Nat) : Prop := MayG k l v b a n sn hn ∧ (0 ≤ t ∧ t ≤ 1099511627776) ∧ (1 ≤ m ∧ m ≤ 1048576)
theorem Ask_no (k l v b a n t m : Int) (sa ha : Option Addr) (sn sc hn hc : Nat) (w : World) (h : ¬ MayA k l v b a n t m sn hn) :
    Calls Try.prog 10 #[.agg #[.int .i64 k, .int .i64 l, .int .i64 v, .int .i64 b], .agg #[.int .i64 a, .int .i64 n, .slice sa sn sc, .slice ha hn hc], .int .i64 t, .int .i64 m] w fun e w' => e = .returned (.tuple #[.agg #[.int .i64 a, .int .i64 n, .slice sa sn sc, .slice ha hn hc], .agg #[.bool false, .int .i64 0, .int .i64 0, .int .i64 0]]) ∧ Below w.heap.size w w' := by
  by_cases h1 : MayG k l v b a n sn hn
  · by_cases h2 : 0 ≤ t ∧ t ≤ 1099511627776
    · exact Ask_n2 k l v b a n t m sa ha sn sc hn hc w h1 h2.1 h2.2 (fun h3 => h ⟨h1, h2, h3⟩)
    · exact Ask_n1 k l v b a n t m sa ha sn sc hn hc w h1 h2
  · exact Ask_n0 k l v b a n t m sa ha sn sc hn hc w h1
theorem rAsk_no (k l v b a n t m : Int) (sa ha : Option Addr) (sn sc hn hc : Nat) (w : World) (h : ¬ MayA k l v b a n t m sn hn) :
    Calls Try.prog 11 #[.agg #[.int .i64 k, .int .i64 l, .int .i64 v, .int .i64 b], .agg #[.int .i64 a, .int .i64 n, .slice sa sn sc, .slice ha hn hc], .int .i64 t, .int .i64 m] w fun e w' => e = .returned (.tuple #[.agg #[.int .i64 a, .int .i64 n, .slice sa sn sc, .slice ha hn hc], .agg #[.bool false, .int .i64 0, .int .i64 0, .int .i64 0]]) ∧ Below w.heap.size w w' := by
  by_cases h1 : MayG k l v b a n sn hn
  · by_cases h2 : 0 ≤ t ∧ t ≤ 1099511627776
    · exact rAsk_n2 k l v b a n t m sa ha sn sc hn hc w h1 h2.1 h2.2 (fun h3 => h ⟨h1, h2, h3⟩)
    · exact rAsk_n1 k l v b a n t m sa ha sn sc hn hc w h1 h2
  · exact rAsk_n0 k l v b a n t m sa ha sn sc hn hc w h1
end Go.Proofs.Ytdmephlappmmdaa
