/- The contracts of the document's own Decode. -/
import Derived.Test.YtkdmebgoobenkaaDoorPol5
import Derived.BigRegion
namespace Go.Proofs.YtkdmebgoobenkaaDoor
open Go.ChangeShapes Go.WideShapes Go.ChangeAt Go.RowKit
set_option linter.unusedVariables false

theorem rDecode_cut (s : ByteArray) (w : World) (hs : s.size < 10) : Calls Tryd.prog 20 #[.string s] w (TellsZero 2 w) := by
  go_enter Tryd.func20, Tryd.ntmps20
  go_wp2
  exact bodyPost_ret (v := .tuple #[.agg #[.int .i64 0, .int .i64 0, .int .i64 0, .int .i64 0], .int .i64 2]) (by simp [results, Tryd.results20, go_sem]) rfl ⟨rfl, (Below.refl _ _).alloc (Nat.le_refl _) _⟩
theorem rDecode_long (s : ByteArray) (w : World) (hm : s.size ≤ maxLen) (hs : 10 < s.size) : Calls Tryd.prog 20 #[.string s] w (TellsZero 3 w) := by
  unfold maxLen at hm
  go_enter Tryd.func20, Tryd.ntmps20
  go_wp2
  exact bodyPost_ret (v := .tuple #[.agg #[.int .i64 0, .int .i64 0, .int .i64 0, .int .i64 0], .int .i64 3]) (by simp [results, Tryd.results20, go_sem]) rfl ⟨rfl, (Below.refl _ _).alloc (Nat.le_refl _) _⟩
theorem rNar (s : ByteArray) (n k : Nat) (w : World) (h : n + k ≤ s.size) (hk : k ≤ 8) : Calls Tryd.prog 26 #[.string (s.extract n (n + k))] w fun e w' => e = .returned (.tuple #[.int .u64 (fld s n k), .bool true]) ∧ w = w' := by
  have := rNarrow_yes (s.extract n (n + k)) w (by rw [sub_size s n k h]; exact hk)
  rw [sub_list] at this
  exact this

set_option maxRecDepth 100000 in
set_option maxHeartbeats 1000000 in
theorem rDecode_yes (s : ByteArray) (w : World) (h10 : s.size = 10) (hm : MayP (fld s 0 1) (fld s 1 4) (fld s 5 4) (fld s 9 1)) : Calls Tryd.prog 20 #[.string s] w fun e w' => e = .returned (.tuple #[.agg #[.int .i64 (fld s 0 1), .int .i64 (fld s 1 4), .int .i64 (fld s 5 4), .int .i64 (fld s 9 1)], .int .i64 0]) ∧ Below w.heap.size w w' := by
  have b0 : 0 < s.size := by omega
  have b9 : 9 < s.size := by omega
  have y0 := (fld_bd s 0 1 (by omega)).1
  have x0 : fld s 0 1 < 4294967296 := by have := (fld_bd s 0 1 (by omega)).2; omega
  have y1 := (fld_bd s 1 4 (by omega)).1
  have x1 : fld s 1 4 < 4294967296 := by have := (fld_bd s 1 4 (by omega)).2; omega
  have y2 := (fld_bd s 5 4 (by omega)).1
  have x2 : fld s 5 4 < 4294967296 := by have := (fld_bd s 5 4 (by omega)).2; omega
  have y3 := (fld_bd s 9 1 (by omega)).1
  have x3 : fld s 9 1 < 4294967296 := by have := (fld_bd s 9 1 (by omega)).2; omega
  have HC := Lib.hid (fun u => rCheck_yes _ _ _ _ u hm)
  have Q1 := Lib.hid (fun u => rNar s 1 4 u (by omega) (by decide))
  have Q2 := Lib.hid (fun u => rNar s 5 4 u (by omega) (by decide))
  have e0 : ((s[0]'b0).toNat : Int) = fld s 0 1 := (numB_one s 0 b0).symm
  have e9 : ((s[9]'b9).toNat : Int) = fld s 9 1 := (numB_one s 9 b9).symm
  generalize fld s 0 1 = f0 at *
  generalize fld s 1 4 = f1 at *
  generalize fld s 5 4 = f2 at *
  generalize fld s 9 1 = f3 at *
  have n1 : 10 ≤ s.size := by omega
  have n2 : s.size ≤ 10 := by omega
  have s1 : ∀ u : World, (Instr.slice 9 (.string s) (some (.int .i64 1)) (some (.int .i64 5)) none).run Tryd.prog u = .ok (.string (s.extract 1 5)) u := fun u => run_sub Tryd.underlying9 s 1 4 (by omega) u
  have s5 : ∀ u : World, (Instr.slice 9 (.string s) (some (.int .i64 5)) (some (.int .i64 9)) none).run Tryd.prog u = .ok (.string (s.extract 5 9)) u := fun u => run_sub Tryd.underlying9 s 5 4 (by omega) u
  clear h10 hm
  go_enter Tryd.func20, Tryd.ntmps20
  go_wp2_with fail
  refine (Q1.out _).mono ?_; rintro e w' ⟨rfl, rfl⟩
  go_wp2_with fail
  refine (Q2.out _).mono ?_; rintro e w' ⟨rfl, rfl⟩
  go_wp2_with fail
  go_region
  all_goals go_wp2_with fail
  refine (HC.out _).mono ?_; rintro e w1 ⟨rfl, hb⟩
  obtain ⟨hc, hf⟩ := bcell hb
  have z0 : w1.cell? ⟨w.heap.size, 0, none⟩ = some (.int .i64 0) := (hc w.heap.size 0 (by simp; omega)).trans (by go_simp)
  have z1 : w1.cell? ⟨w.heap.size, 1, none⟩ = some (.int .i64 0) := (hc w.heap.size 1 (by simp; omega)).trans (by go_simp)
  have z2 : w1.cell? ⟨w.heap.size, 2, none⟩ = some (.int .i64 0) := (hc w.heap.size 2 (by simp; omega)).trans (by go_simp)
  have z3 : w1.cell? ⟨w.heap.size, 3, none⟩ = some (.int .i64 0) := (hc w.heap.size 3 (by simp; omega)).trans (by go_simp)
  have HB := Lib.hid ((two_new _ _ _).drew.trans (hb.mono (by simp; omega)))
  clear hb
  go_wp2_with fail
  exact bodyPost_ret (v := .tuple #[.agg #[.int .i64 f0, .int .i64 f1, .int .i64 f2, .int .i64 f3], .int .i64 0]) (by simp [results, Tryd.results20, go_sem, z0, z1, z2, z3]) rfl ⟨rfl, (((HB.out.setCell (p := ⟨w.heap.size, 0, none⟩) (Nat.le_refl _) _).setCell (p := ⟨w.heap.size, 1, none⟩) (Nat.le_refl _) _).setCell (p := ⟨w.heap.size, 2, none⟩) (Nat.le_refl _) _).setCell (p := ⟨w.heap.size, 3, none⟩) (Nat.le_refl _) _⟩

set_option maxRecDepth 100000 in
set_option maxHeartbeats 1000000 in
theorem rDecode_no (s : ByteArray) (w : World) (h10 : s.size = 10) (hm : ¬ MayP (fld s 0 1) (fld s 1 4) (fld s 5 4) (fld s 9 1)) : Calls Tryd.prog 20 #[.string s] w (TellsZero 3 w) := by
  have b0 : 0 < s.size := by omega
  have b9 : 9 < s.size := by omega
  have y0 := (fld_bd s 0 1 (by omega)).1
  have x0 : fld s 0 1 < 4294967296 := by have := (fld_bd s 0 1 (by omega)).2; omega
  have y1 := (fld_bd s 1 4 (by omega)).1
  have x1 : fld s 1 4 < 4294967296 := by have := (fld_bd s 1 4 (by omega)).2; omega
  have y2 := (fld_bd s 5 4 (by omega)).1
  have x2 : fld s 5 4 < 4294967296 := by have := (fld_bd s 5 4 (by omega)).2; omega
  have y3 := (fld_bd s 9 1 (by omega)).1
  have x3 : fld s 9 1 < 4294967296 := by have := (fld_bd s 9 1 (by omega)).2; omega
  have HC := Lib.hid (fun u => rCheck_no _ _ _ _ u hm)
  have Q1 := Lib.hid (fun u => rNar s 1 4 u (by omega) (by decide))
  have Q2 := Lib.hid (fun u => rNar s 5 4 u (by omega) (by decide))
  have e0 : ((s[0]'b0).toNat : Int) = fld s 0 1 := (numB_one s 0 b0).symm
  have e9 : ((s[9]'b9).toNat : Int) = fld s 9 1 := (numB_one s 9 b9).symm
  generalize fld s 0 1 = f0 at *
  generalize fld s 1 4 = f1 at *
  generalize fld s 5 4 = f2 at *
  generalize fld s 9 1 = f3 at *
  have n1 : 10 ≤ s.size := by omega
  have n2 : s.size ≤ 10 := by omega
  have s1 : ∀ u : World, (Instr.slice 9 (.string s) (some (.int .i64 1)) (some (.int .i64 5)) none).run Tryd.prog u = .ok (.string (s.extract 1 5)) u := fun u => run_sub Tryd.underlying9 s 1 4 (by omega) u
  have s5 : ∀ u : World, (Instr.slice 9 (.string s) (some (.int .i64 5)) (some (.int .i64 9)) none).run Tryd.prog u = .ok (.string (s.extract 5 9)) u := fun u => run_sub Tryd.underlying9 s 5 4 (by omega) u
  clear h10 hm
  go_enter Tryd.func20, Tryd.ntmps20
  go_wp2_with fail
  refine (Q1.out _).mono ?_; rintro e w' ⟨rfl, rfl⟩
  go_wp2_with fail
  refine (Q2.out _).mono ?_; rintro e w' ⟨rfl, rfl⟩
  go_wp2_with fail
  go_region
  all_goals go_wp2_with fail
  refine (HC.out _).mono ?_; rintro e w1 ⟨rfl, hb⟩
  obtain ⟨hc, hf⟩ := bcell hb
  have z0 : w1.cell? ⟨w.heap.size, 0, none⟩ = some (.int .i64 0) := (hc w.heap.size 0 (by simp; omega)).trans (by go_simp)
  have z1 : w1.cell? ⟨w.heap.size, 1, none⟩ = some (.int .i64 0) := (hc w.heap.size 1 (by simp; omega)).trans (by go_simp)
  have z2 : w1.cell? ⟨w.heap.size, 2, none⟩ = some (.int .i64 0) := (hc w.heap.size 2 (by simp; omega)).trans (by go_simp)
  have z3 : w1.cell? ⟨w.heap.size, 3, none⟩ = some (.int .i64 0) := (hc w.heap.size 3 (by simp; omega)).trans (by go_simp)
  have HB := Lib.hid ((two_new _ _ _).drew.trans (hb.mono (by simp; omega)))
  clear hb
  go_wp2_with fail
  exact bodyPost_ret (v := .tuple #[.agg #[.int .i64 0, .int .i64 0, .int .i64 0, .int .i64 0], .int .i64 3]) (by simp [results, Tryd.results20, go_sem, z0, z1, z2, z3]) rfl ⟨rfl, (((HB.out.setCell (p := ⟨w.heap.size, 0, none⟩) (Nat.le_refl _) _).setCell (p := ⟨w.heap.size, 1, none⟩) (Nat.le_refl _) _).setCell (p := ⟨w.heap.size, 2, none⟩) (Nat.le_refl _) _).setCell (p := ⟨w.heap.size, 3, none⟩) (Nat.le_refl _) _⟩
end Go.Proofs.YtkdmebgoobenkaaDoor
