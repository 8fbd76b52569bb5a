/- What the statements' own live tells. WRITTEN BY PROGRAM. -/
import Derived.Test.YtkdmebgoobenkaaDoorPolTab
namespace Go.Proofs.YtkdmebgoobenkaaDoor
open Go.ChangeShapes Go.WideShapes Go.ChangeAt Go.RowKit
set_option linter.unusedVariables false

theorem PolAt.alloc {w0 w : World} {g : Nat} {k l v b : Int} (h : PolAt w0 g k l v b w) (o : Obj) : PolAt w0 g k l v b (w.alloc o) := h.step ((Below.refl _ _).alloc (Nat.le_refl _) o)
theorem TabW.step {w w' : World} (h : TabW w) (hb : Below w.heap.size w w') : TabW w' := h.below hb h.sz
theorem TabW.alloc {w : World} (h : TabW w) (o : Obj) : TabW (w.alloc o) := h.step ((Below.refl _ _).alloc (Nat.le_refl _) o)
theorem calls_eqB {f : Nat} {args : Array Value} {w : World} {a b : Value} (h : Calls Tryd.prog f args w fun e w' => e = .returned a ∧ Below w.heap.size w w') (e : a = b) : Calls Tryd.prog f args w fun e w' => e = .returned b ∧ Below w.heap.size w w' := by subst e; exact h
theorem lv_enc (w : World) (ht : TabW w) : Calls Tryd.prog 8 #[.agg #[.int .i64 3, .int .i64 10, .int .i64 60, .int .i64 6]] w fun e w' => e = .returned (.tuple #[.string ⟨#[3, 0, 0, 0, 10, 0, 0, 0, 60, 6]⟩, .int .i64 0]) ∧ Below w.heap.size w w' :=
  calls_eqB (Encode_yes 3 10 60 6 w (by decide) ht) (by kernel_rfl)
theorem lv_dec (w : World) (ht : TabW w) : Calls Tryd.prog 19 #[.string ⟨#[3, 0, 0, 0, 10, 0, 0, 0, 60, 6]⟩] w fun e w' => e = .returned (.tuple #[.agg #[.int .i64 3, .int .i64 10, .int .i64 60, .int .i64 6], .int .i64 0]) ∧ Below w.heap.size w w' :=
  calls_eqB (Decode_yes ⟨#[3, 0, 0, 0, 10, 0, 0, 0, 60, 6]⟩ w ht (by decide) (by decide +kernel)) (by kernel_rfl)
theorem lv_decx (w : World) (ht : TabW w) : Calls Tryd.prog 19 #[.string (⟨#[3, 0, 0, 0, 10, 0, 0, 0, 60, 6]⟩ ++ ⟨#[120]⟩)] w fun e w' => e = .returned (.tuple #[.agg #[.int .i64 0, .int .i64 0, .int .i64 0, .int .i64 0], .int .i64 3]) ∧ Below w.heap.size w w' :=
  Decode_long _ w ht (by unfold maxLen; decide +kernel) (by decide +kernel)
theorem lv_dec1 (w : World) (ht : TabW w) : Calls Tryd.prog 19 #[.string ⟨#[120]⟩] w fun e w' => e = .returned (.tuple #[.agg #[.int .i64 0, .int .i64 0, .int .i64 0, .int .i64 0], .int .i64 2]) ∧ Below w.heap.size w w' :=
  Decode_cut1 _ w ht (by unfold maxLen; decide) (by decide) (by decide)
theorem lv_enc0 (w : World) : Calls Tryd.prog 8 #[.agg #[.int .i64 0, .int .i64 0, .int .i64 0, .int .i64 0]] w fun e w' => e = .returned (.tuple #[.string ⟨#[]⟩, .int .i64 1]) ∧ Below w.heap.size w w' := Encode_no 0 0 0 0 w (by decide)
theorem lv_ck (w : World) : Calls Tryd.prog 10 #[.agg #[.int .i64 3, .int .i64 10, .int .i64 60, .int .i64 6]] w fun e w' => e = .returned (.int .i64 0) ∧ Below w.heap.size w w' := Check_yes 3 10 60 6 w (by decide)
theorem lv_ck7 (w : World) : Calls Tryd.prog 10 #[.agg #[.int .i64 3, .int .i64 10, .int .i64 60, .int .i64 7]] w fun e w' => e = .returned (.int .i64 1) ∧ Below w.heap.size w w' := Check_no 3 10 60 7 w (by decide)
theorem lv_ck4 (w : World) : Calls Tryd.prog 10 #[.agg #[.int .i64 4, .int .i64 17, .int .i64 60, .int .i64 0]] w fun e w' => e = .returned (.int .i64 1) ∧ Below w.heap.size w w' := Check_no 4 17 60 0 w (by decide)
theorem lv_span (w : World) : Calls Tryd.prog 12 #[.agg #[.int .i64 3, .int .i64 10, .int .i64 60, .int .i64 6]] w fun e w' => e = .returned (.int .i64 60) ∧ Below w.heap.size w w' := Span_yes 3 10 60 6 w (by decide)
theorem lv_slot (w : World) : Calls Tryd.prog 14 #[.agg #[.int .i64 3, .int .i64 10, .int .i64 60, .int .i64 6]] w fun e w' => e = .returned (.int .i64 10) ∧ Below w.heap.size w w' := calls_eqB (Slot_yes 3 10 60 6 w (by decide)) (by kernel_rfl)

set_option maxRecDepth 100000 in
set_option maxHeartbeats 2000000 in
theorem live_any (w : World) (ht : TabW w) : Calls Tryd.prog 18 #[] w fun e w' => e = .returned (.bool true) ∧ Below w.heap.size w w' := by
  have A0 := Lib.hid (PolAt.made w 3 10 60 6 23)
  have T0 := Lib.hid (ht.alloc (.cells #[.int .i64 3, .int .i64 10, .int .i64 60, .int .i64 6] 23))
  clear ht
  go_enter Tryd.func18, Tryd.ntmps18
  go_wp2_with fail
  refine (lv_enc _ T0.out).mono ?_; rintro e w1 ⟨rfl, hb⟩
  have A1 := Lib.hid (A0.out.step hb)
  have T1 := Lib.hid (T0.out.step hb)
  clear hb A0 T0
  go_wp2_with fail
  refine (lv_dec _ T1.out).mono ?_; rintro e w2 ⟨rfl, hb⟩
  have A2 := Lib.hid ((A1.out.step hb).alloc (.cells #[.int .i64 3, .int .i64 10, .int .i64 60, .int .i64 6] 23))
  have T2 := Lib.hid ((T1.out.step hb).alloc (.cells #[.int .i64 3, .int .i64 10, .int .i64 60, .int .i64 6] 23))
  have B2 := Lib.hid (PolAt.made w2 3 10 60 6 23)
  clear hb A1 T1
  go_wp2_with fail
  refine (lv_decx _ T2.out).mono ?_; rintro e w3 ⟨rfl, hb⟩
  have A3 := Lib.hid ((A2.out.step hb).alloc (.cells #[.int .i64 0, .int .i64 0, .int .i64 0, .int .i64 0] 23))
  have T3 := Lib.hid ((T2.out.step hb).alloc (.cells #[.int .i64 0, .int .i64 0, .int .i64 0, .int .i64 0] 23))
  have B3 := Lib.hid ((B2.out.step hb).alloc (.cells #[.int .i64 0, .int .i64 0, .int .i64 0, .int .i64 0] 23))
  clear hb A2 T2 B2
  go_wp2_with fail
  refine (lv_dec1 _ T3.out).mono ?_; rintro e w4 ⟨rfl, hb⟩
  have A4 := Lib.hid ((A3.out.step hb).alloc (.cells #[.int .i64 0, .int .i64 0, .int .i64 0, .int .i64 0] 23))
  have T4 := Lib.hid ((T3.out.step hb).alloc (.cells #[.int .i64 0, .int .i64 0, .int .i64 0, .int .i64 0] 23))
  have B4 := Lib.hid ((B3.out.step hb).alloc (.cells #[.int .i64 0, .int .i64 0, .int .i64 0, .int .i64 0] 23))
  clear hb A3 T3 B3
  go_wp2_with fail
  refine (lv_enc0 _).mono ?_; rintro e w5 ⟨rfl, hb⟩
  have A5 := Lib.hid (A4.out.step hb)
  have T5 := Lib.hid (T4.out.step hb)
  have B5 := Lib.hid (B4.out.step hb)
  clear hb A4 T4 B4
  have a0 := A5.out.d0
  have a1 := A5.out.d1
  have a2 := A5.out.d2
  have a3 := A5.out.d3
  go_wp2_with fail
  refine (lv_ck _).mono ?_; rintro e w6 ⟨rfl, hb⟩
  have A6 := Lib.hid (A5.out.step hb)
  have T6 := Lib.hid (T5.out.step hb)
  have B6 := Lib.hid (B5.out.step hb)
  clear hb A5 T5 B5
  clear a0 a1 a2 a3
  go_wp2_with fail
  refine (lv_ck7 _).mono ?_; rintro e w7 ⟨rfl, hb⟩
  have A7 := Lib.hid (A6.out.step hb)
  have T7 := Lib.hid (T6.out.step hb)
  have B7 := Lib.hid (B6.out.step hb)
  clear hb A6 T6 B6
  go_wp2_with fail
  refine (lv_ck4 _).mono ?_; rintro e w8 ⟨rfl, hb⟩
  have A8 := Lib.hid (A7.out.step hb)
  have T8 := Lib.hid (T7.out.step hb)
  have B8 := Lib.hid (B7.out.step hb)
  clear hb A7 T7 B7
  have a0 := A8.out.d0
  have a1 := A8.out.d1
  have a2 := A8.out.d2
  have a3 := A8.out.d3
  have b0 := B8.out.d0
  have b1 := B8.out.d1
  have b2 := B8.out.d2
  have b3 := B8.out.d3
  go_wp2_with fail
  refine (lv_span _).mono ?_; rintro e w9 ⟨rfl, hb⟩
  have A9 := Lib.hid (A8.out.step hb)
  have T9 := Lib.hid (T8.out.step hb)
  have B9 := Lib.hid (B8.out.step hb)
  clear hb A8 T8 B8
  clear a0 a1 a2 a3 b0 b1 b2 b3
  have a0 := A9.out.d0
  have a1 := A9.out.d1
  have a2 := A9.out.d2
  have a3 := A9.out.d3
  go_wp2_with fail
  refine (lv_slot _).mono ?_; rintro e w10 ⟨rfl, hb⟩
  have A10 := Lib.hid (A9.out.step hb)
  have T10 := Lib.hid (T9.out.step hb)
  have B10 := Lib.hid (B9.out.step hb)
  clear hb A9 T9 B9
  go_wp2_with fail
  refine (Weighs_yes 1 _ (by decide) (by decide)).mono ?_; rintro e w' ⟨rfl, rfl⟩
  go_wp2_with fail
  refine (Weighs_no 0 _ (by decide)).mono ?_; rintro e w' ⟨rfl, rfl⟩
  go_wp2_with fail
  go_ret
  exact ⟨rfl, A10.out.be⟩
end Go.Proofs.YtkdmebgoobenkaaDoor
