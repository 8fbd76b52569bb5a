/- answer's writer: numbers, texts, flags, and the things of a list. -/
import Derived.Test.YtljllfopgpmekabWb0
import Derived.Test.YtljllfopgpmekabAn0
import Derived.Test.YtljllfopgpmekabNums6
import Derived.Deep.RegionHeld3
import Derived.WalkSmall
-- prune
namespace Go.Proofs.Ytljllfopgpmekab
open Go.ChangeShapes Go.WideShapes Go.ChangeAt Go.RowKit
set_option linter.unusedVariables false

theorem btA : BT 104 := ⟨by kernel_rfl, by decide⟩
theorem byteC_app (l m : List UInt8) : Lib.byteCells (l ++ m) = Lib.byteCells l ++ Lib.byteCells m := by simp [Lib.byteCells]
theorem strC (s : ByteArray) : Lib.strCells s = Lib.byteCells s.data.toList := by
  apply List.ext_getElem?
  intro i
  simp [Lib.strCells, Lib.byteCells]
theorem u64_wrap (n : Int) : U64 (IntKind.u64.wrap n) := by rw [wrapU]; unfold U64; omega
/-- A draw is nothing that lies in memory. -/
theorem undrew {B : Nat} {w w1 : World} (h : Below B w.drew w1) : Below B w w1 := ⟨h.os, h.tape, h.output, h.size, h.block⟩
/-- What a call that writes into the builder b turns: nothing below B, and of the rest no block but b and rows of bytes. -/
structure FW (B b : Nat) (w w' : World) : Prop where
  be : Below B w w'
  ot : Lib.OthersKept 5 (some b) w w'
section
variable {B b : Nat} {u w w' : World}
theorem FW.refl (B b : Nat) (w : World) : FW B b w w := ⟨Below.refl _ _, Lib.OthersKept.refl _ _ _⟩
theorem FW.trans (h : FW B b u w) (k : FW B b w w') : FW B b u w' := ⟨h.be.trans k.be, h.ot.trans k.ot⟩
theorem FW.alloc (h : FW B b u w) (hB : B ≤ w.heap.size) (o : Obj) : FW B b u (w.alloc o) := ⟨h.be.alloc hB o, h.ot.alloc o⟩
theorem FW.drew (h : FW B b u w) : FW B b u w.drew := ⟨h.be.drew, h.ot.drew⟩
theorem FW.below (h : Below w.heap.size w w') (hB : B ≤ w.heap.size) : FW B b w w' := ⟨h.mono hB, fun k o hk _ _ => by rw [h.block k (Array.getElem?_eq_some_iff.1 hk).1]; exact hk⟩
theorem FW.size (h : FW B b w w') : w.heap.size ≤ w'.heap.size := h.be.size
theorem Has.fw {g : Nat} {t : TypeId} {l : List Value} (h : Has w g t l) (hk : FW B b w w') (hg : g ≠ b) (ht : t ≠ 5) : Has w' g t l :=
  hk.ot g _ h (fun e => hg (Option.some.inj e)) (fun c fz e => by injection e with _ e2; exact ht e2)
end
/-- What a call that writes leaves. -/
structure Wrote (T : TypeId) (B b : Nat) (l : List UInt8) (w : World) (e : Ending) (w' : World) : Prop where
  ret : e = .returned (.tuple #[])
  wb : WB T B b l w'
  fw : FW B b w w'
/-- WriteString, in the words of bytes. -/
theorem WS_any {T : TypeId} (hT : BT T) (B b : Nat) (l : List UInt8) (s : ByteArray) (w : World) (h : WB T B b l w) (hB : B ≤ w.heap.size) (hl : l.length ≤ 1000000) (hs : s.size ≤ maxLen) (hs2 : s.size ≤ 1000000) :
    Calls Try.prog 78 #[.pointer (some ⟨b, 0, none⟩), .string s] w fun e w' => (∃ v, e = .returned v) ∧ WB T B b (l ++ s.data.toList) w' ∧ FW B b w w' := by
  refine (WriteString_any hT B b _ s w h (by rw [Lib.byteCells_length]; omega) hB).mono ?_
  rintro e w' ⟨rfl, h1, h2, h3⟩
  refine ⟨⟨_, rfl⟩, ?_, ⟨h2, h3⟩⟩
  unfold WB
  rw [byteC_app, ← strC]
  exact .inr h1
theorem wNumber_any (B b : Nat) (l : List UInt8) (n : Int) (k : Nat) (w : World) (hk : k ≤ 8) (h : WB 104 B b l w) (hB : B ≤ w.heap.size) (hl : l.length ≤ 100000) :
    Calls Try.prog 57 #[.pointer (some ⟨b, 0, none⟩), .int .i64 n, .int .i64 k] w (Wrote 104 B b (l ++ nB n k) w) := by
  have HW := Lib.hid (fun w => Wide_yes (IntKind.u64.wrap n) k w (u64_wrap n) hk)
  have HH := Lib.hid h
  have hz : (ByteArray.mk (wideL (IntKind.u64.wrap n) k).toArray).size ≤ 8 := by
    show (wideL (IntKind.u64.wrap n) k).toArray.size ≤ 8
    rw [List.size_toArray, wideL_len]; exact hk
  have HZ := Lib.hid hz
  clear h hz
  go_enter Try.func57, Try.ntmps57
  go_region_held3 (fun _ => True) (exact trivial) (first | (go_at_call 79; (with_reducible refine (HW.out _).mono ?_); rintro e w1 ⟨rfl, hb1⟩; have B1 := Lib.hid (undrew hb1); have H1 := Lib.hid (HH.out.step B1.out); clear hb1) | (go_at_call 78; (with_reducible refine (WS_any btA B b l _ _ H1.out (Nat.le_trans hB B1.out.size) (by omega) (by have := HZ.out; unfold maxLen; omega) (by have := HZ.out; omega)).mono ?_); rintro e w2 ⟨⟨v, rfl⟩, h2, hb2⟩; have H2 := Lib.hid h2; have B2 := Lib.hid hb2; clear h2 hb2))
  all_goals
    go_wp2
    go_end0
    exact ⟨rfl, H2.out, (FW.below B1.out hB).trans B2.out⟩
theorem Put_any (s : ByteArray) (w : World) (hs : s.size ≤ maxLen) :
    Calls Try.prog 89 #[.string s] w fun e w' => ∃ t x, e = .returned (.tuple #[.string t, .bool x]) ∧ t.data.toList = tB s ∧ t.size ≤ 256 ∧ Below w.heap.size w w' := by
  by_cases h : s.size ≤ 255
  · refine (Put_yes s w h).mono ?_
    rintro e w' ⟨rfl, hb⟩
    have e1 : (putB s).data.toList = tB s := by
      unfold putB tB
      rw [if_pos h, ByteArray.data_append, Array.toList_append]
      simp [wideL, byteN, List.range_succ]
      rw [show ((s.size : Int) % 256).toNat = s.size by omega]
    refine ⟨_, _, rfl, e1, ?_, hb⟩
    have := congrArg List.length e1
    rw [tB_len h] at this
    simp at this
    omega
  · refine (Put_no s w (by omega) hs).mono ?_
    rintro e w' ⟨rfl, rfl⟩
    exact ⟨_, _, rfl, by unfold tB; rw [if_neg h], by decide, Below.refl _ _⟩
theorem wText_any (B b : Nat) (l : List UInt8) (s : ByteArray) (w : World) (hs : s.size ≤ maxLen) (h : WB 104 B b l w) (hB : B ≤ w.heap.size) (hl : l.length ≤ 100000) :
    Calls Try.prog 81 #[.pointer (some ⟨b, 0, none⟩), .string s] w (Wrote 104 B b (l ++ tB s) w) := by
  have HP := Lib.hid (fun w => Put_any s w hs)
  have HH := Lib.hid h
  clear h
  go_enter Try.func81, Try.ntmps81
  go_wp2_with fail
  refine (HP.out _).mono ?_
  rintro e w1 ⟨t, x, rfl, ht, hz, hb1⟩
  have H1 := Lib.hid (HH.out.step hb1)
  have B1 := Lib.hid hb1
  have HT := Lib.hid ht
  clear hb1 ht
  go_wp2_with fail
  refine (WS_any btA B b l t w1 H1.out (Nat.le_trans hB B1.out.size) (by omega) (by unfold maxLen; omega) (by omega)).mono ?_
  rintro e w2 ⟨⟨v, rfl⟩, h2, hb2⟩
  rw [HT.out] at h2
  have R := Lib.hid (show Wrote 104 B b (l ++ tB s) w (.returned (.tuple #[])) w2 from ⟨rfl, h2, (FW.below B1.out hB).trans hb2⟩)
  clear h2 hb2
  go_wp2
  go_end0
  exact R.out
theorem wFlag_any (B b : Nat) (l : List UInt8) (x : Bool) (w : World) (h : WB 104 B b l w) (hB : B ≤ w.heap.size) (hl : l.length ≤ 100000) :
    Calls Try.prog 80 #[.pointer (some ⟨b, 0, none⟩), .bool x] w (Wrote 104 B b (l ++ nB (flN x) 1) w) := by
  have hw : ∀ x : Bool, Calls Try.prog 88 #[.pointer (some ⟨b, 0, none⟩), .int .u8 (flN x)] w fun e w' => e = .returned .nilIface ∧ WB 104 B b (l ++ nB (flN x) 1) w' ∧ FW B b w w' := by
    intro x
    refine (WriteByte_any btA B b _ _ w h (by rw [Lib.byteCells_length]; omega) hB).mono ?_
    rintro e w' ⟨rfl, h1, h2, h3⟩
    refine ⟨rfl, ?_, ⟨h2, h3⟩⟩
    unfold WB
    rw [byteC_app, show Lib.byteCells (nB (flN x) 1) = [.int .u8 (flN x)] by cases x <;> rfl]
    exact .inr h1
  have HT := Lib.hid (hw true)
  have HF := Lib.hid (hw false)
  clear hw h
  cases x with
  | true =>
    go_enter Try.func80, Try.ntmps80
    go_wp2_with fail
    refine HT.out.mono ?_
    rintro e w1 ⟨rfl, h1, hb1⟩
    have R := Lib.hid (show Wrote 104 B b (l ++ nB (flN true) 1) w (.returned (.tuple #[])) w1 from ⟨rfl, h1, hb1⟩)
    clear h1 hb1
    go_wp2
    go_end0
    exact R.out
  | false =>
    go_enter Try.func80, Try.ntmps80
    go_wp2_with fail
    refine HF.out.mono ?_
    rintro e w1 ⟨rfl, h1, hb1⟩
    have R := Lib.hid (show Wrote 104 B b (l ++ nB (flN false) 1) w (.returned (.tuple #[])) w1 from ⟨rfl, h1, hb1⟩)
    clear h1 hb1
    go_wp2
    go_end0
    exact R.out
/-- What items leaves. -/
structure WroteN (T : TypeId) (B b : Nat) (l : List UInt8) (n : Nat) (w : World) (e : Ending) (w' : World) : Prop where
  ret : e = .returned (.int .i64 (n : Int))
  wb : WB T B b l w'
  fw : FW B b w w'
theorem wItems_any (B b : Nat) (l : List UInt8) (n : Nat) (w : World) (h : WB 104 B b l w) (hB : B ≤ w.heap.size) (hl : l.length ≤ 100000) :
    Calls Try.prog 59 #[.pointer (some ⟨b, 0, none⟩), .int .i64 n] w (WroteN 104 B b (l ++ nB n 1) (min n 32) w) := by
  have HN := Lib.hid (wNumber_any B b l n 1 w (by decide) h hB hl)
  have E := Lib.hid (show min (n : Int) 32 = ((min n 32 : Nat) : Int) by omega)
  clear h
  go_enter Try.func59, Try.ntmps59
  go_wp2_with fail
  refine HN.out.mono ?_
  rintro e w1 ⟨rfl, h1, hb1⟩
  have R := Lib.hid (And.intro h1 hb1)
  clear h1 hb1
  go_wp2
  go_ret
  exact ⟨by show Ending.returned (.int .i64 (min (n : Int) 32)) = _; rw [E.out], R.out.1, R.out.2⟩
end Go.Proofs.Ytljllfopgpmekab
