/- Some answers of a Reader: live. -/
import Derived.Test.YtgcdminjpdbchabFr5
import Derived.Test.YtgcdminjpdbchabFr6
namespace Go.Proofs.Ytgcdminjpdbchab
open Go.ChangeShapes Go.WideShapes Go.ChangeAt Go.RowKit
set_option linter.unusedVariables false

/-- A Reader that a call has made since w0. -/
structure Mn (w0 : World) (w : World) (r : Nat) (v : Value) (s : FrS) : Prop where
  t : Rd w r v s
  b : Below w0.heap.size w0 w
  r0 : w0.heap.size ≤ r
  v0 : ∀ b, v.ownBlock = some b → w0.heap.size ≤ b
theorem Mn.fed {w0 w w' : World} {r : Nat} {v v' : Value} {s s' : FrS} (h : Mn w0 w r v s) (k : RdT w r v s' v' w') : Mn w0 w' r v' s' := by
  have hs := h.b.size
  refine ⟨k.t, h.b.trans (k.kp.below hs (fun b hb q => ?_)), h.r0, fun b hb => ?_⟩
  · rcases q with q | q
    · have := h.r0; omega
    · have := h.v0 b q; omega
  · rcases k.fr b hb with q | q
    · exact h.v0 b q
    · omega
theorem Mn.step {w0 w w' : World} {r : Nat} {v : Value} {s : FrS} (h : Mn w0 w r v s) (hb : Below w.heap.size w w') : Mn w0 w' r v s := h.fed ((RdT.refl h.t).step hb)
theorem Encode_hi (w : World) : Calls Try.prog 13 #[.string ⟨#[104, 105]⟩] w fun e w' => e = .returned (.tuple #[.string ⟨#[0, 2, 104, 105]⟩, .int .i64 0]) ∧ Below w.heap.size w w' := by
  have HW := Lib.hid (Wide_yes 2 2 w (by unfold U64; omega) (by decide))
  have e1 : (⟨(wideL 2 2).toArray⟩ : ByteArray) ++ ⟨#[104, 105]⟩ = ⟨#[0, 2, 104, 105]⟩ := by decide +kernel
  go_enter Try.func13, Try.ntmps13
  go_wp2_with (first | (go_at_call 17; refine (good_yes 2 _ (by decide)).mono ?_; rintro e wn ⟨rfl, rfl⟩) | (go_at_call 18; refine HW.out.mono ?_; rintro e wn ⟨rfl, hb⟩))
  go_ret2
  exact ⟨rfl, hb⟩
theorem Encode_none (w : World) : Calls Try.prog 13 #[.string ⟨#[]⟩] w fun e w' => e = .returned (.tuple #[.string ⟨#[]⟩, .int .i64 1]) ∧ w = w' := by
  go_enter Try.func13, Try.ntmps13
  go_wp2_with (first | (go_at_call 17; refine (good_no 0 _ (by decide) (by decide)).mono ?_; rintro e wn ⟨rfl, rfl⟩))
  go_ret2
  exact ⟨rfl, rfl⟩
def FA : FrS := ⟨0, [0], 0⟩
def FB : FrS := ⟨2, [], 513⟩
def FC : FrS := ⟨2, [], 508⟩
theorem run_a : FrS.new.run [0, 1, 97, 0, 0, 0] = (FA, [(⟨#[97]⟩, 0), (⟨#[]⟩, 8)]) := by kernel_rfl
theorem run_b : FA.run [1, 98, 2, 1] = (FB, [(⟨#[98]⟩, 0), (⟨#[]⟩, 8)]) := by kernel_rfl
theorem run_c : FB.run [49, 50, 51, 52, 53] = (FC, []) := by kernel_rfl
/-- A row of two pieces. -/
theorem two_of {B : Nat} {T : TypeId} {w : World} {v : Value} {p q : ByteArray × Int} (h : OwnPr B T w v [p, q]) : ∃ b off cap, v = .slice (some ⟨b, off, none⟩) 2 cap ∧ 2 ≤ cap ∧ b < w.heap.size ∧ w.cell? ⟨b, off, none⟩ = some (.string p.1) ∧ w.cell? ⟨b, off + 1, none⟩ = some (.int .i64 p.2) ∧ w.cell? ⟨b, off + 2, none⟩ = some (.string q.1) ∧ w.cell? ⟨b, off + 3, none⟩ = some (.int .i64 q.2) := by
  obtain ⟨A, cap, rfl, h1, h2, h3⟩ := h.at_
  obtain ⟨b, off, rfl, hb, hc⟩ := h3 (by simp)
  exact ⟨b, off, cap, rfl, h1, hb, (hc 0 p rfl).1, (hc 0 p rfl).2, (hc 1 q rfl).1, (hc 1 q rfl).2⟩
theorem none_of {B : Nat} {T : TypeId} {w : World} {v : Value} (h : OwnPr B T w v []) : ∃ A cap, v = .slice A 0 cap := by
  obtain ⟨A, cap, rfl, _⟩ := h.at_
  exact ⟨A, cap, rfl⟩
set_option maxRecDepth 100000 in
set_option maxHeartbeats 1000000 in
theorem live_any (w : World) : Calls Try.prog 6 #[] w fun e w' => e = .returned (.bool true) ∧ Below w.heap.size w w' := by
  go_enter Try.func6, Try.ntmps6
  go_wp2_with fail
  refine (Encode_hi w).mono ?_
  rintro e w1 ⟨rfl, hb⟩
  have B1 := Lib.hid hb
  clear hb
  go_wp2_with fail
  refine (Encode_none w1).mono ?_
  rintro e w2 ⟨rfl, rfl⟩
  go_wp2_with fail
  refine (New_any w1).mono ?_
  rintro e w2 ⟨rfl, hr, hb, _⟩
  have M2 := Lib.hid (show Mn w w2 w1.heap.size (.slice none 0 0) FrS.new from ⟨hr, B1.out.trans (hb.mono B1.out.size), B1.out.size, fun b hb => by simp [Value.ownBlock] at hb⟩)
  clear hr hb B1
  generalize w1.heap.size = r at M2 ⊢
  have F2 := Lib.hid (Feed_any w2 r _ _ ⟨#[0, 1, 97, 0, 0, 0]⟩ (by decide) M2.out.t)
  go_wp2_with fail
  refine F2.out.mono ?_
  rintro e w3 ⟨x, v3, rfl, hx, ht⟩
  replace hx : OwnPr w2.heap.size 37 w3 x [(⟨#[97]⟩, 0), (⟨#[]⟩, 8)] := by
    have e := congrArg Prod.snd run_a
    rw [e] at hx
    exact hx
  replace ht : RdT w2 r (.slice none 0 0) FA v3 w3 := by
    have e := congrArg Prod.fst run_a
    rw [e] at ht
    exact ht
  have M3 := Lib.hid (M2.out.fed ht)
  have X3 := Lib.hid hx
  clear hx ht M2 F2
  have L3 := Lib.hid (Left_any w3 r v3 FA M3.out.t)
  go_wp2_with fail
  refine L3.out.mono ?_
  rintro e w4 ⟨rfl, rfl⟩
  clear L3
  have F3 := Lib.hid (Feed_any w3 r _ _ ⟨#[1, 98, 2, 1]⟩ (by decide) M3.out.t)
  go_wp2_with fail
  refine F3.out.mono ?_
  rintro e w4 ⟨y, v4, rfl, hy, ht⟩
  replace hy : OwnPr w3.heap.size 37 w4 y [(⟨#[98]⟩, 0), (⟨#[]⟩, 8)] := by
    have e := congrArg Prod.snd run_b
    rw [e] at hy
    exact hy
  replace ht : RdT w3 r v3 FB v4 w4 := by
    have e := congrArg Prod.fst run_b
    rw [e] at ht
    exact ht
  have X4 := Lib.hid (X3.out.beside M3.out.t ht (by decide) (by decide))
  have M4 := Lib.hid (M3.out.fed ht)
  have Y4 := Lib.hid hy
  clear hy ht M3 X3 F3
  have L4 := Lib.hid (Left_any w4 r v4 FB M4.out.t)
  go_wp2_with fail
  refine L4.out.mono ?_
  rintro e w5 ⟨rfl, rfl⟩
  clear L4
  have F4 := Lib.hid (Feed_any w4 r _ _ ⟨#[49, 50, 51, 52, 53]⟩ (by decide) M4.out.t)
  go_wp2_with fail
  refine F4.out.mono ?_
  rintro e w5 ⟨z, v5, rfl, hz, ht⟩
  replace hz : OwnPr w4.heap.size 37 w5 z [] := by
    have e := congrArg Prod.snd run_c
    rw [e] at hz
    exact hz
  replace ht : RdT w4 r v4 FC v5 w5 := by
    have e := congrArg Prod.fst run_c
    rw [e] at ht
    exact ht
  have X5 := Lib.hid (X4.out.beside M4.out.t ht (by decide) (by decide))
  have Y5 := Lib.hid (Y4.out.beside M4.out.t ht (by decide) (by decide))
  have M5 := Lib.hid (M4.out.fed ht)
  obtain ⟨xb, xo, xc, rfl, x1, x2, x3, x4, x5, x6⟩ := two_of X5.out
  obtain ⟨yb, yo, yc, rfl, y1, y2, y3, y4, y5, y6⟩ := two_of Y5.out
  obtain ⟨za, zc, rfl⟩ := none_of hz
  have L5 := Lib.hid (Left_any w5 r v5 FC M5.out.t)
  simp only at x3 x4 x5 x6 y3 y4 y5 y6
  clear hz ht M4 X4 Y4 X5 Y5 F4
  go_wp2_with (first | (go_at_call 12; refine L5.out.mono ?_; rintro e w6 ⟨rfl, rfl⟩))
  go_ret
  exact ⟨rfl, M5.out.b⟩
end Go.Proofs.Ytgcdminjpdbchab
