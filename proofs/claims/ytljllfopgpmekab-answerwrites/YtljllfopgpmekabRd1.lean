/- answer's reader: a thing that is told, a name, a policy. -/
import Derived.Test.YtljllfopgpmekabRd0
-- prune
namespace Go.Proofs.Ytljllfopgpmekab
open Go.ChangeShapes Go.WideShapes Go.ChangeAt Go.RowKit
set_option linter.unusedVariables false

/-- A struct of a call's own, field by field, and the one that tells it, beside a reader. -/
structure LW (T : TypeId) (Z C : List Value) (T' : TypeId) (r : Nat) (l : List UInt8) (w w1 : World) : Prop where
  rr : RR T r l w1
  kp : Kept (fun b => b = r) w w1
  res : Has w1 w.heap.size T' Z
  loc : Has w1 (w.heap.size + 1) T' C
  lt : r < w.heap.size
section
variable {T T' : TypeId} {Z C : List Value} {r : Nat} {l l' : List UInt8} {w w1 w2 : World}
theorem LW.made (h : RR T r l w) (Z : List Value) (T' : TypeId) : LW T Z Z T' r l w ((w.alloc (.cells Z.toArray T')).alloc (.cells Z.toArray T')) := by
  refine ⟨⟨(h.h.alloc _).alloc _, h.n⟩, ((Kept.refl _ _).alloc _).alloc _, (Has.made w T' Z).alloc _, ?_, h.lt⟩
  have := Has.made (w.alloc (.cells Z.toArray T')) T' Z
  rwa [show (w.alloc (.cells Z.toArray T')).heap.size = w.heap.size + 1 by simp] at this
theorem LW.next (h : LW T Z C T' r l w w1) (hr : RR T r l' w2) (hk : Kept (fun b => b = r) w1 w2) : LW T Z C T' r l' w w2 :=
  ⟨hr, h.kp.trans hk (fun i hi => .inl hi), h.res.kept hk (by have := h.lt; omega), h.loc.kept hk (by have := h.lt; omega), h.lt⟩
theorem LW.put (h : LW T Z C T' r l w w1) (i : Nat) (u : Value) {C' : List Value} (e : C.set i u = C') : LW T Z C' T' r l w (w1.setCell ⟨w.heap.size + 1, i, none⟩ u) := by
  subst e
  exact ⟨⟨h.rr.h.apart (by have := h.lt; show r ≠ w.heap.size + 1; omega) u, h.rr.n⟩, h.kp.setCell (.inr (by show w.heap.size ≤ w.heap.size + 1; omega)) u, h.res.apart (by show w.heap.size ≠ w.heap.size + 1; omega) u, h.loc.store i u, h.lt⟩
theorem LW.tell (h : LW T Z C T' r l w w1) (i : Nat) (u : Value) {Z' : List Value} (e : Z.set i u = Z') : LW T Z' C T' r l w (w1.setCell ⟨w.heap.size, i, none⟩ u) := by
  subst e
  exact ⟨⟨h.rr.h.apart (by have := h.lt; show r ≠ w.heap.size; omega) u, h.rr.n⟩, h.kp.setCell (.inr (Nat.le_refl _)) u, h.res.store i u, h.loc.apart (by show w.heap.size + 1 ≠ w.heap.size; omega) u, h.lt⟩
theorem LW.done {v : Value} (h : LW T Z C T' r l w w1) : RdX T r v l w (.returned v) w1 := ⟨rfl, h.rr, h.kp⟩
end

set_option maxRecDepth 100000 in
theorem aTold_any (r : Nat) (l : List UInt8) (w : World) (h : RR 113 r l w) :
    Calls Try.prog 68 #[.pointer (some ⟨r, 0, none⟩)] w (RdX 113 r (.agg #[.int .i64 (rdN 1 l).1, .bool ((rdN 1 (rdN 1 l).2).1 == 1), .int .i64 (rdN 4 (rdN 1 (rdN 1 l).2).2).1, .int .i64 (rdN 6 (rdN 4 (rdN 1 (rdN 1 l).2).2).2).1, .int .i64 (rdN 6 (rdN 6 (rdN 4 (rdN 1 (rdN 1 l).2).2).2).2).1]) (rdN 6 (rdN 6 (rdN 4 (rdN 1 (rdN 1 l).2).2).2).2).2 w) := by
  have Y0 := Lib.hid (LW.made h [.int .i64 0, .bool false, .int .i64 0, .int .i64 0, .int .i64 0] 70)
  clear h
  go_enter Try.func68, Try.ntmps68
  go_wp2_with fail
  refine (aCode_any r (l) _ Y0.out.rr).mono ?_
  rintro e w1 ⟨rfl, h1, k1⟩
  have X1 := Lib.hid (Y0.out.next h1 k1)
  clear h1 k1 
  have Y1 := Lib.hid (X1.out.put 0 (.int .i64 (rdN 1 l).1) (C' := [.int .i64 (rdN 1 l).1, .bool false, .int .i64 0, .int .i64 0, .int .i64 0]) rfl)
  have ce1 := X1.out.loc.cell 0
  have fz1 := X1.out.loc.loose 0
  simp at ce1
  go_wp2_with fail
  refine (aFlag_any r ((rdN 1 l).2) _ Y1.out.rr).mono ?_
  rintro e w2 ⟨rfl, h2, k2⟩
  have X2 := Lib.hid (Y1.out.next h2 k2)
  clear h2 k2 ce1 fz1
  have Y2 := Lib.hid (X2.out.put 1 (.bool ((rdN 1 (rdN 1 l).2).1 == 1)) (C' := [.int .i64 (rdN 1 l).1, .bool ((rdN 1 (rdN 1 l).2).1 == 1), .int .i64 0, .int .i64 0, .int .i64 0]) rfl)
  have ce2 := X2.out.loc.cell 1
  have fz2 := X2.out.loc.loose 1
  simp at ce2
  go_wp2_with fail
  refine (aNumber_any r ((rdN 1 (rdN 1 l).2).2) 4 _ (by decide) Y2.out.rr).mono ?_
  rintro e w3 ⟨rfl, h3, k3⟩
  have X3 := Lib.hid (Y2.out.next h3 k3)
  clear h3 k3 ce2 fz2
  have Y3 := Lib.hid (X3.out.put 2 (.int .i64 (rdN 4 (rdN 1 (rdN 1 l).2).2).1) (C' := [.int .i64 (rdN 1 l).1, .bool ((rdN 1 (rdN 1 l).2).1 == 1), .int .i64 (rdN 4 (rdN 1 (rdN 1 l).2).2).1, .int .i64 0, .int .i64 0]) rfl)
  have ce3 := X3.out.loc.cell 2
  have fz3 := X3.out.loc.loose 2
  simp at ce3
  go_wp2_with fail
  refine (aNumber_any r ((rdN 4 (rdN 1 (rdN 1 l).2).2).2) 6 _ (by decide) Y3.out.rr).mono ?_
  rintro e w4 ⟨rfl, h4, k4⟩
  have X4 := Lib.hid (Y3.out.next h4 k4)
  clear h4 k4 ce3 fz3
  have Y4 := Lib.hid (X4.out.put 3 (.int .i64 (rdN 6 (rdN 4 (rdN 1 (rdN 1 l).2).2).2).1) (C' := [.int .i64 (rdN 1 l).1, .bool ((rdN 1 (rdN 1 l).2).1 == 1), .int .i64 (rdN 4 (rdN 1 (rdN 1 l).2).2).1, .int .i64 (rdN 6 (rdN 4 (rdN 1 (rdN 1 l).2).2).2).1, .int .i64 0]) rfl)
  have ce4 := X4.out.loc.cell 3
  have fz4 := X4.out.loc.loose 3
  simp at ce4
  go_wp2_with fail
  refine (aNumber_any r ((rdN 6 (rdN 4 (rdN 1 (rdN 1 l).2).2).2).2) 6 _ (by decide) Y4.out.rr).mono ?_
  rintro e w5 ⟨rfl, h5, k5⟩
  have X5 := Lib.hid (Y4.out.next h5 k5)
  clear h5 k5 ce4 fz4
  have Y5 := Lib.hid (X5.out.put 4 (.int .i64 (rdN 6 (rdN 6 (rdN 4 (rdN 1 (rdN 1 l).2).2).2).2).1) (C' := [.int .i64 (rdN 1 l).1, .bool ((rdN 1 (rdN 1 l).2).1 == 1), .int .i64 (rdN 4 (rdN 1 (rdN 1 l).2).2).1, .int .i64 (rdN 6 (rdN 4 (rdN 1 (rdN 1 l).2).2).2).1, .int .i64 (rdN 6 (rdN 6 (rdN 4 (rdN 1 (rdN 1 l).2).2).2).2).1]) rfl)
  have ce5 := X5.out.loc.cell 4
  have fz5 := X5.out.loc.loose 4
  simp at ce5
  have rc0 := X5.out.res.cell 0
  have rf0 := X5.out.res.loose 0
  have lc0 := X5.out.loc.cell 0
  simp at rc0 lc0
  have rc1 := X5.out.res.cell 1
  have rf1 := X5.out.res.loose 1
  have lc1 := X5.out.loc.cell 1
  simp at rc1 lc1
  have rc2 := X5.out.res.cell 2
  have rf2 := X5.out.res.loose 2
  have lc2 := X5.out.loc.cell 2
  simp at rc2 lc2
  have rc3 := X5.out.res.cell 3
  have rf3 := X5.out.res.loose 3
  have lc3 := X5.out.loc.cell 3
  simp at rc3 lc3
  have rc4 := X5.out.res.cell 4
  have rf4 := X5.out.res.loose 4
  have lc4 := X5.out.loc.cell 4
  simp at rc4 lc4
  have R := Lib.hid ((((((Y5.out.tell 0 (.int .i64 (rdN 1 l).1) rfl).tell 1 (.bool ((rdN 1 (rdN 1 l).2).1 == 1)) rfl).tell 2 (.int .i64 (rdN 4 (rdN 1 (rdN 1 l).2).2).1) rfl).tell 3 (.int .i64 (rdN 6 (rdN 4 (rdN 1 (rdN 1 l).2).2).2).1) rfl).tell 4 (.int .i64 (rdN 6 (rdN 6 (rdN 4 (rdN 1 (rdN 1 l).2).2).2).2).1) rfl).done (v := .agg #[.int .i64 (rdN 1 l).1, .bool ((rdN 1 (rdN 1 l).2).1 == 1), .int .i64 (rdN 4 (rdN 1 (rdN 1 l).2).2).1, .int .i64 (rdN 6 (rdN 4 (rdN 1 (rdN 1 l).2).2).2).1, .int .i64 (rdN 6 (rdN 6 (rdN 4 (rdN 1 (rdN 1 l).2).2).2).2).1]))
  go_wp2
  refine bodyPost_ret (v := .agg #[.int .i64 (rdN 1 l).1, .bool ((rdN 1 (rdN 1 l).2).1 == 1), .int .i64 (rdN 4 (rdN 1 (rdN 1 l).2).2).1, .int .i64 (rdN 6 (rdN 4 (rdN 1 (rdN 1 l).2).2).2).1, .int .i64 (rdN 6 (rdN 6 (rdN 4 (rdN 1 (rdN 1 l).2).2).2).2).1]) (by simp [results, Try.results68, go_sem, rc0, rc1, rc2, rc3, rc4]) rfl R.out

set_option maxRecDepth 100000 in
theorem aName_any (r : Nat) (l : List UInt8) (w : World) (h : RR 113 r l w) :
    Calls Try.prog 69 #[.pointer (some ⟨r, 0, none⟩)] w (RdX 113 r (.agg #[.int .i64 (rdN 1 l).1, .string (rdT (rdN 1 l).2).1]) (rdT (rdN 1 l).2).2 w) := by
  have Y0 := Lib.hid (LW.made h [.int .i64 0, .string ⟨#[]⟩] 26)
  clear h
  go_enter Try.func69, Try.ntmps69
  go_wp2_with fail
  refine (aNumber_any r (l) 1 _ (by decide) Y0.out.rr).mono ?_
  rintro e w1 ⟨rfl, h1, k1⟩
  have X1 := Lib.hid (Y0.out.next h1 k1)
  clear h1 k1 
  have Y1 := Lib.hid (X1.out.put 0 (.int .i64 (rdN 1 l).1) (C' := [.int .i64 (rdN 1 l).1, .string ⟨#[]⟩]) rfl)
  have ce1 := X1.out.loc.cell 0
  have fz1 := X1.out.loc.loose 0
  simp at ce1
  go_wp2_with fail
  refine (aText_any r ((rdN 1 l).2) _ Y1.out.rr).mono ?_
  rintro e w2 ⟨rfl, h2, k2⟩
  have X2 := Lib.hid (Y1.out.next h2 k2)
  clear h2 k2 ce1 fz1
  have Y2 := Lib.hid (X2.out.put 1 (.string (rdT (rdN 1 l).2).1) (C' := [.int .i64 (rdN 1 l).1, .string (rdT (rdN 1 l).2).1]) rfl)
  have ce2 := X2.out.loc.cell 1
  have fz2 := X2.out.loc.loose 1
  simp at ce2
  have rc0 := X2.out.res.cell 0
  have rf0 := X2.out.res.loose 0
  have lc0 := X2.out.loc.cell 0
  simp at rc0 lc0
  have rc1 := X2.out.res.cell 1
  have rf1 := X2.out.res.loose 1
  have lc1 := X2.out.loc.cell 1
  simp at rc1 lc1
  have R := Lib.hid (((Y2.out.tell 0 (.int .i64 (rdN 1 l).1) rfl).tell 1 (.string (rdT (rdN 1 l).2).1) rfl).done (v := .agg #[.int .i64 (rdN 1 l).1, .string (rdT (rdN 1 l).2).1]))
  go_wp2
  refine bodyPost_ret (v := .agg #[.int .i64 (rdN 1 l).1, .string (rdT (rdN 1 l).2).1]) (by simp [results, Try.results69, go_sem, rc0, rc1]) rfl R.out

set_option maxRecDepth 100000 in
theorem aPolicy_any (r : Nat) (l : List UInt8) (w : World) (h : RR 113 r l w) :
    Calls Try.prog 66 #[.pointer (some ⟨r, 0, none⟩)] w (RdX 113 r (.agg #[.int .i64 (rdN 1 l).1, .int .i64 (rdN 4 (rdN 1 l).2).1, .int .i64 (rdN 4 (rdN 4 (rdN 1 l).2).2).1, .int .i64 (rdN 1 (rdN 4 (rdN 4 (rdN 1 l).2).2).2).1]) (rdN 1 (rdN 4 (rdN 4 (rdN 1 l).2).2).2).2 w) := by
  have Y0 := Lib.hid (LW.made h [.int .i64 0, .int .i64 0, .int .i64 0, .int .i64 0] 24)
  clear h
  go_enter Try.func66, Try.ntmps66
  go_wp2_with fail
  refine (aNumber_any r (l) 1 _ (by decide) Y0.out.rr).mono ?_
  rintro e w1 ⟨rfl, h1, k1⟩
  have X1 := Lib.hid (Y0.out.next h1 k1)
  clear h1 k1 
  have Y1 := Lib.hid (X1.out.put 0 (.int .i64 (rdN 1 l).1) (C' := [.int .i64 (rdN 1 l).1, .int .i64 0, .int .i64 0, .int .i64 0]) rfl)
  have ce1 := X1.out.loc.cell 0
  have fz1 := X1.out.loc.loose 0
  simp at ce1
  go_wp2_with fail
  refine (aNumber_any r ((rdN 1 l).2) 4 _ (by decide) Y1.out.rr).mono ?_
  rintro e w2 ⟨rfl, h2, k2⟩
  have X2 := Lib.hid (Y1.out.next h2 k2)
  clear h2 k2 ce1 fz1
  have Y2 := Lib.hid (X2.out.put 1 (.int .i64 (rdN 4 (rdN 1 l).2).1) (C' := [.int .i64 (rdN 1 l).1, .int .i64 (rdN 4 (rdN 1 l).2).1, .int .i64 0, .int .i64 0]) rfl)
  have ce2 := X2.out.loc.cell 1
  have fz2 := X2.out.loc.loose 1
  simp at ce2
  go_wp2_with fail
  refine (aNumber_any r ((rdN 4 (rdN 1 l).2).2) 4 _ (by decide) Y2.out.rr).mono ?_
  rintro e w3 ⟨rfl, h3, k3⟩
  have X3 := Lib.hid (Y2.out.next h3 k3)
  clear h3 k3 ce2 fz2
  have Y3 := Lib.hid (X3.out.put 2 (.int .i64 (rdN 4 (rdN 4 (rdN 1 l).2).2).1) (C' := [.int .i64 (rdN 1 l).1, .int .i64 (rdN 4 (rdN 1 l).2).1, .int .i64 (rdN 4 (rdN 4 (rdN 1 l).2).2).1, .int .i64 0]) rfl)
  have ce3 := X3.out.loc.cell 2
  have fz3 := X3.out.loc.loose 2
  simp at ce3
  go_wp2_with fail
  refine (aNumber_any r ((rdN 4 (rdN 4 (rdN 1 l).2).2).2) 1 _ (by decide) Y3.out.rr).mono ?_
  rintro e w4 ⟨rfl, h4, k4⟩
  have X4 := Lib.hid (Y3.out.next h4 k4)
  clear h4 k4 ce3 fz3
  have Y4 := Lib.hid (X4.out.put 3 (.int .i64 (rdN 1 (rdN 4 (rdN 4 (rdN 1 l).2).2).2).1) (C' := [.int .i64 (rdN 1 l).1, .int .i64 (rdN 4 (rdN 1 l).2).1, .int .i64 (rdN 4 (rdN 4 (rdN 1 l).2).2).1, .int .i64 (rdN 1 (rdN 4 (rdN 4 (rdN 1 l).2).2).2).1]) rfl)
  have ce4 := X4.out.loc.cell 3
  have fz4 := X4.out.loc.loose 3
  simp at ce4
  have rc0 := X4.out.res.cell 0
  have rf0 := X4.out.res.loose 0
  have lc0 := X4.out.loc.cell 0
  simp at rc0 lc0
  have rc1 := X4.out.res.cell 1
  have rf1 := X4.out.res.loose 1
  have lc1 := X4.out.loc.cell 1
  simp at rc1 lc1
  have rc2 := X4.out.res.cell 2
  have rf2 := X4.out.res.loose 2
  have lc2 := X4.out.loc.cell 2
  simp at rc2 lc2
  have rc3 := X4.out.res.cell 3
  have rf3 := X4.out.res.loose 3
  have lc3 := X4.out.loc.cell 3
  simp at rc3 lc3
  have R := Lib.hid (((((Y4.out.tell 0 (.int .i64 (rdN 1 l).1) rfl).tell 1 (.int .i64 (rdN 4 (rdN 1 l).2).1) rfl).tell 2 (.int .i64 (rdN 4 (rdN 4 (rdN 1 l).2).2).1) rfl).tell 3 (.int .i64 (rdN 1 (rdN 4 (rdN 4 (rdN 1 l).2).2).2).1) rfl).done (v := .agg #[.int .i64 (rdN 1 l).1, .int .i64 (rdN 4 (rdN 1 l).2).1, .int .i64 (rdN 4 (rdN 4 (rdN 1 l).2).2).1, .int .i64 (rdN 1 (rdN 4 (rdN 4 (rdN 1 l).2).2).2).1]))
  go_wp2
  refine bodyPost_ret (v := .agg #[.int .i64 (rdN 1 l).1, .int .i64 (rdN 4 (rdN 1 l).2).1, .int .i64 (rdN 4 (rdN 4 (rdN 1 l).2).2).1, .int .i64 (rdN 1 (rdN 4 (rdN 4 (rdN 1 l).2).2).2).1]) (by simp [results, Try.results66, go_sem, rc0, rc1, rc2, rc3]) rfl R.out

end Go.Proofs.Ytljllfopgpmekab
