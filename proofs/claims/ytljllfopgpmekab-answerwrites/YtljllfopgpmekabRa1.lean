/- The document's own: a policy's bytes; whether an answer may be. -/
import Derived.Test.YtljllfopgpmekabRa0
import Derived.Test.YtljllfopgpmekabSa2
-- prune
namespace Go.Proofs.Ytljllfopgpmekab
open Go.ChangeShapes Go.WideShapes Go.ChangeAt Go.RowKit
set_option linter.unusedVariables false

/-- A struct's block of a call's own. -/
structure OW (C : List Value) (T : TypeId) (w w1 : World) : Prop where
  x : Has w1 w.heap.size T C
  be : Below w.heap.size w w1
theorem OW.made (C : List Value) (T : TypeId) (w : World) : OW C T w (w.alloc (.cells C.toArray T)) := ⟨Has.made _ _ _, (Below.refl _ _).alloc (Nat.le_refl _) _⟩
theorem OW.drew {C : List Value} {T : TypeId} {w w1 : World} (h : OW C T w w1) : OW C T w w1.drew := ⟨h.x.drew, h.be.drew⟩
theorem OW.next {C : List Value} {T : TypeId} {w w1 w2 : World} (h : OW C T w w1) (hb : Below w1.heap.size w1 w2) : OW C T w w2 := ⟨h.x.below hb h.x.lt, h.be.trans (hb.mono h.be.size)⟩

theorem OW.four {pk pl pw pb : Int} {w w1 : World} (h : OW [.int .i64 pk, .int .i64 pl, .int .i64 pw, .int .i64 pb] 24 w w1) : w1.cell? ⟨w.heap.size, 0, none⟩ = some (.int .i64 pk) ∧ w1.cell? ⟨w.heap.size, 1, none⟩ = some (.int .i64 pl) ∧ w1.cell? ⟨w.heap.size, 2, none⟩ = some (.int .i64 pw) ∧ w1.cell? ⟨w.heap.size, 3, none⟩ = some (.int .i64 pb) := ⟨h.x.cell 0, h.x.cell 1, h.x.cell 2, h.x.cell 3⟩
theorem list_size {s : ByteArray} {l : List UInt8} (h : s.data.toList = l) : s.size = l.length := by rw [← h]; simp
set_option maxRecDepth 100000 in
set_option maxHeartbeats 1000000 in
theorem rPolicy_any (pk pl pw pb : Int) (w : World) : Calls Try.prog 32 #[.agg #[.int .i64 pk, .int .i64 pl, .int .i64 pw, .int .i64 pb]] w (TellsS (plB pk pl pw pb) w) := by
  have X0 := Lib.hid (OW.made [.int .i64 pk, .int .i64 pl, .int .i64 pw, .int .i64 pb] 24 w)
  go_enter Try.func32, Try.ntmps32
  go_wp2_with fail
  generalize hw0 : w.alloc (.cells #[.int .i64 pk, .int .i64 pl, .int .i64 pw, .int .i64 pb] 24) = W0 at *
  go_region_held3 (fun w' => w'.cell? ⟨w.heap.size, 0, none⟩ = some (.int .i64 pk) ∧ w'.cell? ⟨w.heap.size, 1, none⟩ = some (.int .i64 pl) ∧ w'.cell? ⟨w.heap.size, 2, none⟩ = some (.int .i64 pw) ∧ w'.cell? ⟨w.heap.size, 3, none⟩ = some (.int .i64 pb)) (first | (with_reducible exact OW.four X0.out) | (with_reducible exact OW.four X0.out.drew) | (with_reducible exact OW.four X1.out) | (with_reducible exact OW.four X2.out) | (with_reducible exact OW.four X3.out) | (with_reducible exact OW.four X4.out) | go_keep) (first | (go_at_call 29; (with_reducible refine (byte1_any pk _).mono ?_); rintro e w1 ⟨s1, rfl, hs1, hb⟩; have X1 := Lib.hid (X0.out.drew.next hb); have z1 := list_size hs1; have L1 := Lib.hid hs1; rw [nB_len] at z1; clear hb hs1) | (go_at_call 53; (with_reducible refine (four_any pl _).mono ?_); rintro e w2 ⟨s2, rfl, hs2, hb⟩; have X2 := Lib.hid (X1.out.next hb); have z2 := list_size hs2; have L2 := Lib.hid hs2; rw [nB_len] at z2; clear hb hs2) | (go_at_call 53; (with_reducible refine (four_any pw _).mono ?_); rintro e w3 ⟨s3, rfl, hs3, hb⟩; have X3 := Lib.hid (X2.out.next hb); have z3 := list_size hs3; have L3 := Lib.hid hs3; rw [nB_len] at z3; clear hb hs3) | (go_at_call 29; (with_reducible refine (byte1_any pb _).mono ?_); rintro e w4 ⟨s4, rfl, hs4, hb⟩; have X4 := Lib.hid (X3.out.next hb); have z4 := list_size hs4; have L4 := Lib.hid hs4; rw [nB_len] at z4; clear hb hs4))
  all_goals
    go_wp2
    go_ret
    exact ⟨_, rfl, by simp [plB, L1.out, L2.out, L3.out, L4.out], X4.out.be⟩

end Go.Proofs.Ytljllfopgpmekab
