/- The contracts of policy.Decode. WRITTEN BY gen_pol5.py. -/
import Derived.Test.YtkdmebgoobenkaaDoorPol4
namespace Go.Proofs.YtkdmebgoobenkaaDoor
open Go.ChangeShapes Go.WideShapes Go.ChangeAt Go.RowKit
set_option linter.unusedVariables false

theorem Num0 (s : ByteArray) (w : World) (hs : s.size ≤ maxLen) (h : 1 ≤ s.size) : Calls Tryd.prog 25 #[.string s, .int .i64 0, .int .i64 1] w fun e w' => e = .returned (.tuple #[.int .u64 (fld s 0 1), .int .i64 1, .int .i64 0]) ∧ w = w' := Number_yes s 0 1 w hs h (by decide)
theorem NumC0 (s : ByteArray) (w : World) (hs : s.size ≤ maxLen) (h0 : 0 ≤ s.size) (h : s.size < 1) : Calls Tryd.prog 25 #[.string s, .int .i64 0, .int .i64 1] w fun e w' => e = .returned (.tuple #[.int .u64 0, .int .i64 0, .int .i64 2]) ∧ w = w' := Number_cut s 0 1 w hs (by decide) ⟨by decide, by omega⟩ (by omega)
theorem Num1 (s : ByteArray) (w : World) (hs : s.size ≤ maxLen) (h : 5 ≤ s.size) : Calls Tryd.prog 25 #[.string s, .int .i64 1, .int .i64 4] w fun e w' => e = .returned (.tuple #[.int .u64 (fld s 1 4), .int .i64 5, .int .i64 0]) ∧ w = w' := Number_yes s 1 4 w hs h (by decide)
theorem NumC1 (s : ByteArray) (w : World) (hs : s.size ≤ maxLen) (h0 : 1 ≤ s.size) (h : s.size < 5) : Calls Tryd.prog 25 #[.string s, .int .i64 1, .int .i64 4] w fun e w' => e = .returned (.tuple #[.int .u64 0, .int .i64 0, .int .i64 2]) ∧ w = w' := Number_cut s 1 4 w hs (by decide) ⟨by decide, by omega⟩ (by omega)
theorem Num2 (s : ByteArray) (w : World) (hs : s.size ≤ maxLen) (h : 9 ≤ s.size) : Calls Tryd.prog 25 #[.string s, .int .i64 5, .int .i64 4] w fun e w' => e = .returned (.tuple #[.int .u64 (fld s 5 4), .int .i64 9, .int .i64 0]) ∧ w = w' := Number_yes s 5 4 w hs h (by decide)
theorem NumC2 (s : ByteArray) (w : World) (hs : s.size ≤ maxLen) (h0 : 5 ≤ s.size) (h : s.size < 9) : Calls Tryd.prog 25 #[.string s, .int .i64 5, .int .i64 4] w fun e w' => e = .returned (.tuple #[.int .u64 0, .int .i64 0, .int .i64 2]) ∧ w = w' := Number_cut s 5 4 w hs (by decide) ⟨by decide, by omega⟩ (by omega)
theorem Num3 (s : ByteArray) (w : World) (hs : s.size ≤ maxLen) (h : 10 ≤ s.size) : Calls Tryd.prog 25 #[.string s, .int .i64 9, .int .i64 1] w fun e w' => e = .returned (.tuple #[.int .u64 (fld s 9 1), .int .i64 10, .int .i64 0]) ∧ w = w' := Number_yes s 9 1 w hs h (by decide)
theorem NumC3 (s : ByteArray) (w : World) (hs : s.size ≤ maxLen) (h0 : 9 ≤ s.size) (h : s.size < 10) : Calls Tryd.prog 25 #[.string s, .int .i64 9, .int .i64 1] w fun e w' => e = .returned (.tuple #[.int .u64 0, .int .i64 0, .int .i64 2]) ∧ w = w' := Number_cut s 9 1 w hs (by decide) ⟨by decide, by omega⟩ (by omega)

/-- A policy of zeros is told, with an error. -/
def TellsZero (x : Int) (w : World) (e : Ending) (w' : World) : Prop := e = .returned (.tuple #[.agg #[.int .i64 0, .int .i64 0, .int .i64 0, .int .i64 0], .int .i64 x]) ∧ Below w.heap.size w w'
theorem two_new (w : World) (a b : Obj) : Below w.heap.size w ((w.alloc a).alloc b) := ((Below.refl _ _).alloc (Nat.le_refl _) _).alloc (by simp) _
theorem three_new (w : World) (a b c : Obj) : Below w.heap.size w (((w.alloc a).alloc b).alloc c) := (two_new w a b).alloc (by simp; omega) _

set_option maxRecDepth 100000 in
set_option maxHeartbeats 1000000 in
theorem Decode_cut0 (s : ByteArray) (w : World) (ht : TabW w) (hs : s.size ≤ maxLen) (h1 : 0 ≤ s.size) (h2 : s.size < 1) : Calls Tryd.prog 19 #[.string s] w (TellsZero 2 w) := by
  have T := ht.below (two_new w (.cells #[.int .i64 0, .int .i64 0, .int .i64 0, .int .i64 0] 23) (.cells #[.int .i64 0, .int .i64 0, .int .i64 0, .int .i64 0] 38)) ht.sz
  have hz := ht.sz
  obtain ⟨_, t0, t1, t2, t3⟩ := ht
  have Q0 := Lib.hid (fun u => NumC0 s u hs h1 h2)
  clear T hs h1 h2
  go_enter Tryd.func19, Tryd.ntmps19
  go_wp2_with fail
  refine wp_loop_rounds 5 ?_
  rw [rounds_succ]
  go_wp2_with fail
  refine (Q0.out _).mono ?_; rintro e w' ⟨rfl, rfl⟩
  go_wp2_with fail
  exact bodyPost_ret (v := .tuple #[.agg #[.int .i64 0, .int .i64 0, .int .i64 0, .int .i64 0], .int .i64 2]) (by simp [results, Tryd.results19, go_sem]) rfl ⟨rfl, two_new _ _ _⟩

set_option maxRecDepth 100000 in
set_option maxHeartbeats 1000000 in
theorem Decode_cut1 (s : ByteArray) (w : World) (ht : TabW w) (hs : s.size ≤ maxLen) (h1 : 1 ≤ s.size) (h2 : s.size < 5) : Calls Tryd.prog 19 #[.string s] w (TellsZero 2 w) := by
  have T := ht.below (two_new w (.cells #[.int .i64 0, .int .i64 0, .int .i64 0, .int .i64 0] 23) (.cells #[.int .i64 0, .int .i64 0, .int .i64 0, .int .i64 0] 38)) ht.sz
  have hz := ht.sz
  obtain ⟨_, t0, t1, t2, t3⟩ := ht
  have Q0 := Lib.hid (fun u => Num0 s u hs (by omega))
  have y0 := (fld_bd s 0 1 (by omega)).1
  have x0 : fld s 0 1 < 4294967296 := by have := (fld_bd s 0 1 (by omega)).2; omega
  generalize fld s 0 1 = f0 at *
  have Q1 := Lib.hid (fun u => NumC1 s u hs h1 h2)
  clear T hs h1 h2
  go_enter Tryd.func19, Tryd.ntmps19
  go_wp2_with fail
  refine wp_loop_rounds 5 ?_
  rw [rounds_succ]
  go_wp2_with fail
  refine (Q0.out _).mono ?_; rintro e w' ⟨rfl, rfl⟩
  go_wp2_with fail
  rw [rounds_succ]
  go_wp2_with fail
  refine (Q1.out _).mono ?_; rintro e w' ⟨rfl, rfl⟩
  go_wp2_with fail
  exact bodyPost_ret (v := .tuple #[.agg #[.int .i64 0, .int .i64 0, .int .i64 0, .int .i64 0], .int .i64 2]) (by simp [results, Tryd.results19, go_sem]) rfl ⟨rfl, two_new _ _ _⟩

set_option maxRecDepth 100000 in
set_option maxHeartbeats 1000000 in
theorem Decode_cut2 (s : ByteArray) (w : World) (ht : TabW w) (hs : s.size ≤ maxLen) (h1 : 5 ≤ s.size) (h2 : s.size < 9) : Calls Tryd.prog 19 #[.string s] w (TellsZero 2 w) := by
  have T := ht.below (two_new w (.cells #[.int .i64 0, .int .i64 0, .int .i64 0, .int .i64 0] 23) (.cells #[.int .i64 0, .int .i64 0, .int .i64 0, .int .i64 0] 38)) ht.sz
  have hz := ht.sz
  obtain ⟨_, t0, t1, t2, t3⟩ := ht
  have Q0 := Lib.hid (fun u => Num0 s u hs (by omega))
  have y0 := (fld_bd s 0 1 (by omega)).1
  have x0 : fld s 0 1 < 4294967296 := by have := (fld_bd s 0 1 (by omega)).2; omega
  generalize fld s 0 1 = f0 at *
  have Q1 := Lib.hid (fun u => Num1 s u hs (by omega))
  have y1 := (fld_bd s 1 4 (by omega)).1
  have x1 : fld s 1 4 < 4294967296 := by have := (fld_bd s 1 4 (by omega)).2; omega
  generalize fld s 1 4 = f1 at *
  have Q2 := Lib.hid (fun u => NumC2 s u hs h1 h2)
  clear T hs h1 h2
  go_enter Tryd.func19, Tryd.ntmps19
  go_wp2_with fail
  refine wp_loop_rounds 5 ?_
  rw [rounds_succ]
  go_wp2_with fail
  refine (Q0.out _).mono ?_; rintro e w' ⟨rfl, rfl⟩
  go_wp2_with fail
  rw [rounds_succ]
  go_wp2_with fail
  refine (Q1.out _).mono ?_; rintro e w' ⟨rfl, rfl⟩
  go_wp2_with fail
  rw [rounds_succ]
  go_wp2_with fail
  refine (Q2.out _).mono ?_; rintro e w' ⟨rfl, rfl⟩
  go_wp2_with fail
  exact bodyPost_ret (v := .tuple #[.agg #[.int .i64 0, .int .i64 0, .int .i64 0, .int .i64 0], .int .i64 2]) (by simp [results, Tryd.results19, go_sem]) rfl ⟨rfl, two_new _ _ _⟩

set_option maxRecDepth 100000 in
set_option maxHeartbeats 1000000 in
theorem Decode_cut3 (s : ByteArray) (w : World) (ht : TabW w) (hs : s.size ≤ maxLen) (h1 : 9 ≤ s.size) (h2 : s.size < 10) : Calls Tryd.prog 19 #[.string s] w (TellsZero 2 w) := by
  have T := ht.below (two_new w (.cells #[.int .i64 0, .int .i64 0, .int .i64 0, .int .i64 0] 23) (.cells #[.int .i64 0, .int .i64 0, .int .i64 0, .int .i64 0] 38)) ht.sz
  have hz := ht.sz
  obtain ⟨_, t0, t1, t2, t3⟩ := ht
  have Q0 := Lib.hid (fun u => Num0 s u hs (by omega))
  have y0 := (fld_bd s 0 1 (by omega)).1
  have x0 : fld s 0 1 < 4294967296 := by have := (fld_bd s 0 1 (by omega)).2; omega
  generalize fld s 0 1 = f0 at *
  have Q1 := Lib.hid (fun u => Num1 s u hs (by omega))
  have y1 := (fld_bd s 1 4 (by omega)).1
  have x1 : fld s 1 4 < 4294967296 := by have := (fld_bd s 1 4 (by omega)).2; omega
  generalize fld s 1 4 = f1 at *
  have Q2 := Lib.hid (fun u => Num2 s u hs (by omega))
  have y2 := (fld_bd s 5 4 (by omega)).1
  have x2 : fld s 5 4 < 4294967296 := by have := (fld_bd s 5 4 (by omega)).2; omega
  generalize fld s 5 4 = f2 at *
  have Q3 := Lib.hid (fun u => NumC3 s u hs h1 h2)
  clear T hs h1 h2
  go_enter Tryd.func19, Tryd.ntmps19
  go_wp2_with fail
  refine wp_loop_rounds 5 ?_
  rw [rounds_succ]
  go_wp2_with fail
  refine (Q0.out _).mono ?_; rintro e w' ⟨rfl, rfl⟩
  go_wp2_with fail
  rw [rounds_succ]
  go_wp2_with fail
  refine (Q1.out _).mono ?_; rintro e w' ⟨rfl, rfl⟩
  go_wp2_with fail
  rw [rounds_succ]
  go_wp2_with fail
  refine (Q2.out _).mono ?_; rintro e w' ⟨rfl, rfl⟩
  go_wp2_with fail
  rw [rounds_succ]
  go_wp2_with fail
  refine (Q3.out _).mono ?_; rintro e w' ⟨rfl, rfl⟩
  go_wp2_with fail
  exact bodyPost_ret (v := .tuple #[.agg #[.int .i64 0, .int .i64 0, .int .i64 0, .int .i64 0], .int .i64 2]) (by simp [results, Tryd.results19, go_sem]) rfl ⟨rfl, two_new _ _ _⟩

set_option maxRecDepth 100000 in
set_option maxHeartbeats 1000000 in
theorem Decode_long (s : ByteArray) (w : World) (ht : TabW w) (hs : s.size ≤ maxLen) (h1 : 10 < s.size) : Calls Tryd.prog 19 #[.string s] w (TellsZero 3 w) := by
  have hz := ht.sz
  obtain ⟨_, t0, t1, t2, t3⟩ := ht
  have Q0 := Lib.hid (fun u => Num0 s u hs (by omega))
  have y0 := (fld_bd s 0 1 (by omega)).1
  have x0 : fld s 0 1 < 4294967296 := by have := (fld_bd s 0 1 (by omega)).2; omega
  have Q1 := Lib.hid (fun u => Num1 s u hs (by omega))
  have y1 := (fld_bd s 1 4 (by omega)).1
  have x1 : fld s 1 4 < 4294967296 := by have := (fld_bd s 1 4 (by omega)).2; omega
  have Q2 := Lib.hid (fun u => Num2 s u hs (by omega))
  have y2 := (fld_bd s 5 4 (by omega)).1
  have x2 : fld s 5 4 < 4294967296 := by have := (fld_bd s 5 4 (by omega)).2; omega
  have Q3 := Lib.hid (fun u => Num3 s u hs (by omega))
  have y3 := (fld_bd s 9 1 (by omega)).1
  have x3 : fld s 9 1 < 4294967296 := by have := (fld_bd s 9 1 (by omega)).2; omega
  generalize fld s 0 1 = f0 at *
  generalize fld s 1 4 = f1 at *
  generalize fld s 5 4 = f2 at *
  generalize fld s 9 1 = f3 at *
  have n1 : ((10 : Int) != (s.size : Int)) = true := by simp; omega
  unfold maxLen at hs
  go_enter Tryd.func19, Tryd.ntmps19
  go_wp2_with fail
  refine wp_loop_rounds 5 ?_
  rw [rounds_succ]
  go_wp2_with fail
  refine (Q0.out _).mono ?_; rintro e w' ⟨rfl, rfl⟩
  go_wp2_with fail
  rw [rounds_succ]
  go_wp2_with fail
  refine (Q1.out _).mono ?_; rintro e w' ⟨rfl, rfl⟩
  go_wp2_with fail
  rw [rounds_succ]
  go_wp2_with fail
  refine (Q2.out _).mono ?_; rintro e w' ⟨rfl, rfl⟩
  go_wp2_with fail
  rw [rounds_succ]
  go_wp2_with fail
  refine (Q3.out _).mono ?_; rintro e w' ⟨rfl, rfl⟩
  go_wp2_with fail
  rw [rounds_succ]
  go_wp2_with fail
  exact bodyPost_ret (v := .tuple #[.agg #[.int .i64 0, .int .i64 0, .int .i64 0, .int .i64 0], .int .i64 3]) (by simp [results, Tryd.results19, go_sem]) rfl ⟨rfl, three_new _ _ _ _⟩

set_option maxRecDepth 100000 in
set_option maxHeartbeats 1000000 in
theorem Decode_yes (s : ByteArray) (w : World) (ht : TabW w) (h10 : s.size = 10) (hm : MayP (fld s 0 1) (fld s 1 4) (fld s 5 4) (fld s 9 1)) : Calls Tryd.prog 19 #[.string s] w fun e w' => e = .returned (.tuple #[.agg #[.int .i64 (fld s 0 1), .int .i64 (fld s 1 4), .int .i64 (fld s 5 4), .int .i64 (fld s 9 1)], .int .i64 0]) ∧ Below w.heap.size w w' := by
  have hs : s.size ≤ maxLen := by rw [h10]; unfold maxLen; decide
  have hz := ht.sz
  obtain ⟨_, t0, t1, t2, t3⟩ := ht
  have Q0 := Lib.hid (fun u => Num0 s u hs (by omega))
  have y0 := (fld_bd s 0 1 (by omega)).1
  have x0 : fld s 0 1 < 4294967296 := by have := (fld_bd s 0 1 (by omega)).2; omega
  have Q1 := Lib.hid (fun u => Num1 s u hs (by omega))
  have y1 := (fld_bd s 1 4 (by omega)).1
  have x1 : fld s 1 4 < 4294967296 := by have := (fld_bd s 1 4 (by omega)).2; omega
  have Q2 := Lib.hid (fun u => Num2 s u hs (by omega))
  have y2 := (fld_bd s 5 4 (by omega)).1
  have x2 : fld s 5 4 < 4294967296 := by have := (fld_bd s 5 4 (by omega)).2; omega
  have Q3 := Lib.hid (fun u => Num3 s u hs (by omega))
  have y3 := (fld_bd s 9 1 (by omega)).1
  have x3 : fld s 9 1 < 4294967296 := by have := (fld_bd s 9 1 (by omega)).2; omega
  have HC := Lib.hid (fun u => Check_yes _ _ _ _ u hm)
  generalize fld s 0 1 = f0 at *
  generalize fld s 1 4 = f1 at *
  generalize fld s 5 4 = f2 at *
  generalize fld s 9 1 = f3 at *
  have n1 : ((10 : Int) != (s.size : Int)) = false := by simp; omega
  clear hs h10 hm
  go_enter Tryd.func19, Tryd.ntmps19
  go_wp2_with fail
  refine wp_loop_rounds 5 ?_
  rw [rounds_succ]
  go_wp2_with fail
  refine (Q0.out _).mono ?_; rintro e w' ⟨rfl, rfl⟩
  go_wp2_with fail
  rw [rounds_succ]
  go_wp2_with fail
  refine (Q1.out _).mono ?_; rintro e w' ⟨rfl, rfl⟩
  go_wp2_with fail
  rw [rounds_succ]
  go_wp2_with fail
  refine (Q2.out _).mono ?_; rintro e w' ⟨rfl, rfl⟩
  go_wp2_with fail
  rw [rounds_succ]
  go_wp2_with fail
  refine (Q3.out _).mono ?_; rintro e w' ⟨rfl, rfl⟩
  go_wp2_with fail
  rw [rounds_succ]
  go_wp2_with fail
  refine (HC.out _).mono ?_; rintro e w1 ⟨rfl, hb⟩
  obtain ⟨hc, hf⟩ := bcell hb
  have z0 : w1.cell? ⟨w.heap.size, 0, none⟩ = some (.int .i64 0) := (hc w.heap.size 0 (by simp; omega)).trans (by go_simp)
  have z1 : w1.cell? ⟨w.heap.size, 1, none⟩ = some (.int .i64 0) := (hc w.heap.size 1 (by simp; omega)).trans (by go_simp)
  have z2 : w1.cell? ⟨w.heap.size, 2, none⟩ = some (.int .i64 0) := (hc w.heap.size 2 (by simp; omega)).trans (by go_simp)
  have z3 : w1.cell? ⟨w.heap.size, 3, none⟩ = some (.int .i64 0) := (hc w.heap.size 3 (by simp; omega)).trans (by go_simp)
  have HB := Lib.hid ((three_new _ _ _ _).trans (hb.mono (by simp; omega)))
  clear hb
  go_wp2_with fail
  exact bodyPost_ret (v := .tuple #[.agg #[.int .i64 f0, .int .i64 f1, .int .i64 f2, .int .i64 f3], .int .i64 0]) (by simp [results, Tryd.results19, go_sem, z0, z1, z2, z3]) rfl ⟨rfl, (((HB.out.setCell (p := ⟨w.heap.size, 0, none⟩) (Nat.le_refl _) _).setCell (p := ⟨w.heap.size, 1, none⟩) (Nat.le_refl _) _).setCell (p := ⟨w.heap.size, 2, none⟩) (Nat.le_refl _) _).setCell (p := ⟨w.heap.size, 3, none⟩) (Nat.le_refl _) _⟩

set_option maxRecDepth 100000 in
set_option maxHeartbeats 1000000 in
theorem Decode_no (s : ByteArray) (w : World) (ht : TabW w) (h10 : s.size = 10) (hm : ¬ MayP (fld s 0 1) (fld s 1 4) (fld s 5 4) (fld s 9 1)) : Calls Tryd.prog 19 #[.string s] w (TellsZero 3 w) := by
  have hs : s.size ≤ maxLen := by rw [h10]; unfold maxLen; decide
  have hz := ht.sz
  obtain ⟨_, t0, t1, t2, t3⟩ := ht
  have Q0 := Lib.hid (fun u => Num0 s u hs (by omega))
  have y0 := (fld_bd s 0 1 (by omega)).1
  have x0 : fld s 0 1 < 4294967296 := by have := (fld_bd s 0 1 (by omega)).2; omega
  have Q1 := Lib.hid (fun u => Num1 s u hs (by omega))
  have y1 := (fld_bd s 1 4 (by omega)).1
  have x1 : fld s 1 4 < 4294967296 := by have := (fld_bd s 1 4 (by omega)).2; omega
  have Q2 := Lib.hid (fun u => Num2 s u hs (by omega))
  have y2 := (fld_bd s 5 4 (by omega)).1
  have x2 : fld s 5 4 < 4294967296 := by have := (fld_bd s 5 4 (by omega)).2; omega
  have Q3 := Lib.hid (fun u => Num3 s u hs (by omega))
  have y3 := (fld_bd s 9 1 (by omega)).1
  have x3 : fld s 9 1 < 4294967296 := by have := (fld_bd s 9 1 (by omega)).2; omega
  have HC := Lib.hid (fun u => Check_no _ _ _ _ u hm)
  generalize fld s 0 1 = f0 at *
  generalize fld s 1 4 = f1 at *
  generalize fld s 5 4 = f2 at *
  generalize fld s 9 1 = f3 at *
  have n1 : ((10 : Int) != (s.size : Int)) = false := by simp; omega
  clear hs h10 hm
  go_enter Tryd.func19, Tryd.ntmps19
  go_wp2_with fail
  refine wp_loop_rounds 5 ?_
  rw [rounds_succ]
  go_wp2_with fail
  refine (Q0.out _).mono ?_; rintro e w' ⟨rfl, rfl⟩
  go_wp2_with fail
  rw [rounds_succ]
  go_wp2_with fail
  refine (Q1.out _).mono ?_; rintro e w' ⟨rfl, rfl⟩
  go_wp2_with fail
  rw [rounds_succ]
  go_wp2_with fail
  refine (Q2.out _).mono ?_; rintro e w' ⟨rfl, rfl⟩
  go_wp2_with fail
  rw [rounds_succ]
  go_wp2_with fail
  refine (Q3.out _).mono ?_; rintro e w' ⟨rfl, rfl⟩
  go_wp2_with fail
  rw [rounds_succ]
  go_wp2_with fail
  refine (HC.out _).mono ?_; rintro e w1 ⟨rfl, hb⟩
  obtain ⟨hc, hf⟩ := bcell hb
  have z0 : w1.cell? ⟨w.heap.size, 0, none⟩ = some (.int .i64 0) := (hc w.heap.size 0 (by simp; omega)).trans (by go_simp)
  have z1 : w1.cell? ⟨w.heap.size, 1, none⟩ = some (.int .i64 0) := (hc w.heap.size 1 (by simp; omega)).trans (by go_simp)
  have z2 : w1.cell? ⟨w.heap.size, 2, none⟩ = some (.int .i64 0) := (hc w.heap.size 2 (by simp; omega)).trans (by go_simp)
  have z3 : w1.cell? ⟨w.heap.size, 3, none⟩ = some (.int .i64 0) := (hc w.heap.size 3 (by simp; omega)).trans (by go_simp)
  have HB := Lib.hid ((three_new _ _ _ _).trans (hb.mono (by simp; omega)))
  clear hb
  go_wp2_with fail
  exact bodyPost_ret (v := .tuple #[.agg #[.int .i64 0, .int .i64 0, .int .i64 0, .int .i64 0], .int .i64 3]) (by simp [results, Tryd.results19, go_sem, z0, z1, z2, z3]) rfl ⟨rfl, (((HB.out.setCell (p := ⟨w.heap.size, 0, none⟩) (Nat.le_refl _) _).setCell (p := ⟨w.heap.size, 1, none⟩) (Nat.le_refl _) _).setCell (p := ⟨w.heap.size, 2, none⟩) (Nat.le_refl _) _).setCell (p := ⟨w.heap.size, 3, none⟩) (Nat.le_refl _) _⟩
end Go.Proofs.YtkdmebgoobenkaaDoor
