/- answer's writer: a thing that is told, a name, a policy. -/
import Derived.Test.YtljllfopgpmekabWb1
-- prune
namespace Go.Proofs.Ytljllfopgpmekab
open Go.ChangeShapes Go.WideShapes Go.ChangeAt Go.RowKit
set_option linter.unusedVariables false

/-- A struct of a call's own beside a builder that is written. -/
structure TW (C : List Value) (T' : TypeId) (g B b : Nat) (l : List UInt8) (w w1 : World) : Prop where
  wb : WB 104 B b l w1
  fw : FW B b w w1
  h : Has w1 g T' C
theorem TW.made {C : List Value} {T' : TypeId} {B b : Nat} {l : List UInt8} {w : World} (h : WB 104 B b l w) (hB : B ≤ w.heap.size) : TW C T' w.heap.size B b l w (w.alloc (.cells C.toArray T')) :=
  ⟨h.step ((Below.refl _ _).alloc (Nat.le_refl _) _), (FW.refl B b w).alloc hB _, Has.made _ _ _⟩
theorem TW.next {C : List Value} {T' : TypeId} {g B b : Nat} {l l' : List UInt8} {w w1 w2 : World} (h : TW C T' g B b l w w1) (hb : WB 104 B b l' w2) (hf : FW B b w1 w2) (hg : g ≠ b) (ht : T' ≠ 5) : TW C T' g B b l' w w2 :=
  ⟨hb, h.fw.trans hf, h.h.fw hf hg ht⟩
theorem TW.done {C : List Value} {T' : TypeId} {g B b : Nat} {l l' : List UInt8} {w w1 : World} (h : TW C T' g B b l w w1) (e : l = l') : Wrote 104 B b l' w (.returned (.tuple #[])) w1 := by
  subst e; exact ⟨rfl, h.wb, h.fw⟩

theorem wTold_any (B b : Nat) (l : List UInt8) (t : Td) (w : World) (h : WB 104 B b l w) (hB : B ≤ w.heap.size) (hb : b < w.heap.size) (hl : l.length ≤ 50000) :
    Calls Try.prog 60 #[.pointer (some ⟨b, 0, none⟩), .agg #[.int .i64 t.code, .bool t.al, .int .i64 t.rem, .int .i64 t.ret, .int .i64 t.res]] w (Wrote 104 B b (l ++ tdB t) w) := by
  obtain ⟨c, x, r, y, z⟩ := t
  have X0 := Lib.hid (TW.made (C := [.int .i64 c, .bool x, .int .i64 r, .int .i64 y, .int .i64 z]) (T' := 70) h hB)
  have NE := Lib.hid (show w.heap.size ≠ b by omega)
  have NT := Lib.hid (show 70 ≠ 5 by decide)
  have HB := Lib.hid hB
  clear h hB
  have c0 := X0.out.h.cell 0
  simp at c0
  go_enter Try.func60, Try.ntmps60
  go_wp2_with fail
  refine (wNumber_any B b (l) (c) 1 _ (by decide) X0.out.wb (Nat.le_trans HB.out X0.out.fw.size) (by first | omega | (simp only [List.length_append, nB_len]; omega))).mono ?_
  rintro e w1 ⟨rfl, h1, f1⟩
  have X1 := Lib.hid (X0.out.next h1 f1 NE.out NT.out)
  clear h1 f1 c0
  have c1 := X1.out.h.cell 1
  simp at c1
  go_wp2_with fail
  refine (wFlag_any B b (l ++ nB c 1) x _ X1.out.wb (Nat.le_trans HB.out X1.out.fw.size) (by first | omega | (simp only [List.length_append, nB_len]; omega))).mono ?_
  rintro e w2 ⟨rfl, h2, f2⟩
  have X2 := Lib.hid (X1.out.next h2 f2 NE.out NT.out)
  clear h2 f2 c1
  have c2 := X2.out.h.cell 2
  simp at c2
  go_wp2_with fail
  refine (wNumber_any B b (l ++ nB c 1 ++ nB (flN x) 1) (r) 4 _ (by decide) X2.out.wb (Nat.le_trans HB.out X2.out.fw.size) (by first | omega | (simp only [List.length_append, nB_len]; omega))).mono ?_
  rintro e w3 ⟨rfl, h3, f3⟩
  have X3 := Lib.hid (X2.out.next h3 f3 NE.out NT.out)
  clear h3 f3 c2
  have c3 := X3.out.h.cell 3
  simp at c3
  go_wp2_with fail
  refine (wNumber_any B b (l ++ nB c 1 ++ nB (flN x) 1 ++ nB r 4) (y) 6 _ (by decide) X3.out.wb (Nat.le_trans HB.out X3.out.fw.size) (by first | omega | (simp only [List.length_append, nB_len]; omega))).mono ?_
  rintro e w4 ⟨rfl, h4, f4⟩
  have X4 := Lib.hid (X3.out.next h4 f4 NE.out NT.out)
  clear h4 f4 c3
  have c4 := X4.out.h.cell 4
  simp at c4
  go_wp2_with fail
  refine (wNumber_any B b (l ++ nB c 1 ++ nB (flN x) 1 ++ nB r 4 ++ nB y 6) (z) 6 _ (by decide) X4.out.wb (Nat.le_trans HB.out X4.out.fw.size) (by first | omega | (simp only [List.length_append, nB_len]; omega))).mono ?_
  rintro e w5 ⟨rfl, h5, f5⟩
  have X5 := Lib.hid (X4.out.next h5 f5 NE.out NT.out)
  clear h5 f5 c4
  have R := Lib.hid (X5.out.done (l' := l ++ tdB ⟨c, x, r, y, z⟩) (by unfold tdB; simp only [List.append_assoc]))
  go_wp2
  go_end0
  exact R.out

theorem wName_any (B b : Nat) (l : List UInt8) (t : Nm) (w : World) (hk : t.key.size ≤ maxLen) (h : WB 104 B b l w) (hB : B ≤ w.heap.size) (hb : b < w.heap.size) (hl : l.length ≤ 50000) :
    Calls Try.prog 61 #[.pointer (some ⟨b, 0, none⟩), .agg #[.int .i64 t.book, .string t.key]] w (Wrote 104 B b (l ++ nmB t) w) := by
  obtain ⟨c, s⟩ := t
  have X0 := Lib.hid (TW.made (C := [.int .i64 c, .string s]) (T' := 26) h hB)
  have NE := Lib.hid (show w.heap.size ≠ b by omega)
  have NT := Lib.hid (show 26 ≠ 5 by decide)
  have HB := Lib.hid hB
  clear h hB
  have c0 := X0.out.h.cell 0
  simp at c0
  go_enter Try.func61, Try.ntmps61
  go_wp2_with fail
  refine (wNumber_any B b (l) (c) 1 _ (by decide) X0.out.wb (Nat.le_trans HB.out X0.out.fw.size) (by first | omega | (simp only [List.length_append, nB_len]; omega))).mono ?_
  rintro e w1 ⟨rfl, h1, f1⟩
  have X1 := Lib.hid (X0.out.next h1 f1 NE.out NT.out)
  clear h1 f1 c0
  have c1 := X1.out.h.cell 1
  simp at c1
  go_wp2_with fail
  refine (wText_any B b (l ++ nB c 1) s _ hk X1.out.wb (Nat.le_trans HB.out X1.out.fw.size) (by first | omega | (simp only [List.length_append, nB_len]; omega))).mono ?_
  rintro e w2 ⟨rfl, h2, f2⟩
  have X2 := Lib.hid (X1.out.next h2 f2 NE.out NT.out)
  clear h2 f2 c1
  have R := Lib.hid (X2.out.done (l' := l ++ nmB ⟨c, s⟩) (by unfold nmB; simp only [List.append_assoc]))
  go_wp2
  go_end0
  exact R.out

theorem wPolicy_any (B b : Nat) (l : List UInt8) (pk pl pw pb : Int) (w : World) (h : WB 104 B b l w) (hB : B ≤ w.heap.size) (hb : b < w.heap.size) (hl : l.length ≤ 50000) :
    Calls Try.prog 58 #[.pointer (some ⟨b, 0, none⟩), .agg #[.int .i64 pk, .int .i64 pl, .int .i64 pw, .int .i64 pb]] w (Wrote 104 B b (l ++ plB pk pl pw pb) w) := by
  have X0 := Lib.hid (TW.made (C := [.int .i64 pk, .int .i64 pl, .int .i64 pw, .int .i64 pb]) (T' := 24) h hB)
  have NE := Lib.hid (show w.heap.size ≠ b by omega)
  have NT := Lib.hid (show 24 ≠ 5 by decide)
  have HB := Lib.hid hB
  clear h hB
  have c0 := X0.out.h.cell 0
  simp at c0
  go_enter Try.func58, Try.ntmps58
  go_wp2_with fail
  refine (wNumber_any B b (l) (pk) 1 _ (by decide) X0.out.wb (Nat.le_trans HB.out X0.out.fw.size) (by first | omega | (simp only [List.length_append, nB_len]; omega))).mono ?_
  rintro e w1 ⟨rfl, h1, f1⟩
  have X1 := Lib.hid (X0.out.next h1 f1 NE.out NT.out)
  clear h1 f1 c0
  have c1 := X1.out.h.cell 1
  simp at c1
  go_wp2_with fail
  refine (wNumber_any B b (l ++ nB pk 1) (pl) 4 _ (by decide) X1.out.wb (Nat.le_trans HB.out X1.out.fw.size) (by first | omega | (simp only [List.length_append, nB_len]; omega))).mono ?_
  rintro e w2 ⟨rfl, h2, f2⟩
  have X2 := Lib.hid (X1.out.next h2 f2 NE.out NT.out)
  clear h2 f2 c1
  have c2 := X2.out.h.cell 2
  simp at c2
  go_wp2_with fail
  refine (wNumber_any B b (l ++ nB pk 1 ++ nB pl 4) (pw) 4 _ (by decide) X2.out.wb (Nat.le_trans HB.out X2.out.fw.size) (by first | omega | (simp only [List.length_append, nB_len]; omega))).mono ?_
  rintro e w3 ⟨rfl, h3, f3⟩
  have X3 := Lib.hid (X2.out.next h3 f3 NE.out NT.out)
  clear h3 f3 c2
  have c3 := X3.out.h.cell 3
  simp at c3
  go_wp2_with fail
  refine (wNumber_any B b (l ++ nB pk 1 ++ nB pl 4 ++ nB pw 4) (pb) 1 _ (by decide) X3.out.wb (Nat.le_trans HB.out X3.out.fw.size) (by first | omega | (simp only [List.length_append, nB_len]; omega))).mono ?_
  rintro e w4 ⟨rfl, h4, f4⟩
  have X4 := Lib.hid (X3.out.next h4 f4 NE.out NT.out)
  clear h4 f4 c3
  have R := Lib.hid (X4.out.done (l' := l ++ plB pk pl pw pb) (by unfold plB; simp only [List.append_assoc]))
  go_wp2
  go_end0
  exact R.out

end Go.Proofs.Ytljllfopgpmekab
