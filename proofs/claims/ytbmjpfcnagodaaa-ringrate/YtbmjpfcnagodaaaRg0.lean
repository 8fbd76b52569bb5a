/- The contracts of ring's small functions, and of the document's. -/
import Derived.Test.YtbmjpfcnagodaaaGc0
import Derived.Test.YtbmjpfcnagodaaaCel0
import Derived.Deep.RegionHeld3
-- prune
namespace Go.Proofs.Ytbmjpfcnagodaaa
open Go.ChangeShapes Go.WideShapes Go.ChangeAt Go.RowKit
set_option linter.unusedVariables false

theorem isTick_yes (t : Int) (w : World) (h1 : 0 ≤ t) (h2 : t ≤ 1099511627776) : Calls Try.prog 21 #[.int .i64 t] w fun e w' => e = .returned (.bool true) ∧ w = w' := by
  go_enter Try.func21, Try.ntmps21
  go_wp2
  go_ret
  exact ⟨rfl, rfl⟩
theorem isTick_no (t : Int) (w : World) (h : ¬ (0 ≤ t ∧ t ≤ 1099511627776)) : Calls Try.prog 21 #[.int .i64 t] w fun e w' => e = .returned (.bool false) ∧ w = w' := by
  by_cases h1 : 0 ≤ t
  · have d : decide (t ≤ 1099511627776) = false := by simp; omega
    clear h
    go_enter Try.func21, Try.ntmps21
    go_wp2
    go_ret
    exact ⟨rfl, rfl⟩
  · clear h
    go_enter Try.func21, Try.ntmps21
    go_wp2
    go_ret
    exact ⟨rfl, rfl⟩
theorem tdiv_i {t v : Int} (h1 : 0 ≤ t) : t.tdiv v = t / v := Int.tdiv_eq_ediv_of_nonneg h1
theorem tmod_i {t v : Int} (h1 : 0 ≤ t) : t.tmod v = t % v := Int.tmod_eq_emod_of_nonneg h1
/-- A policy of kind Ring: its numbers, and those of its slot. -/
structure RP (k l v b sl : Int) : Prop where
  p : MayP k l v b
  k3 : k = 3
  s : v / b = sl
theorem RP.bd {k l v b sl : Int} (h : RP k l v b sl) : 1 ≤ l ∧ l ≤ 1048576 ∧ 1 ≤ v ∧ v ≤ 1048576 ∧ 1 ≤ b ∧ b ≤ 16 ∧ 1 ≤ sl ∧ sl ≤ 1048576 ∧ sl * b = v := by
  obtain ⟨h1, h2, h3, h4, h5, h6, h7, h8, h9⟩ := h.p
  obtain ⟨b1, b2, b3⟩ := h9 h.k3
  have e : b * (v / b) + v % b = v := Int.mul_ediv_add_emod v b
  rw [b3, h.s, Int.mul_comm] at e
  have q0 : 0 ≤ v / b := Int.ediv_nonneg (by omega) (by omega)
  have q1 : v / b ≤ v := Int.ediv_le_self _ (by omega)
  rw [h.s] at q0 q1
  have : sl ≠ 0 := fun z => by rw [z] at e; omega
  exact ⟨h5, h6, h3, h4, b1, b2, by omega, by omega, by omega⟩
theorem slot_any {k l v b sl : Int} (w : World) (h : RP k l v b sl) : Calls Try.prog 36 #[.agg #[.int .i64 k, .int .i64 l, .int .i64 v, .int .i64 b]] w fun e w' => e = .returned (.int .i64 sl) ∧ Below w.heap.size w w' := by
  have q := Slot_yes k l v b w h.p
  have e : slotI k v b = sl := by unfold slotI; rw [if_pos h.k3, h.s]
  rw [e] at q
  exact q
/-- A policy, in a new block. -/
structure PB (w0 : World) (k l v b : Int) (w : World) : Prop where
  p : Has w w0.heap.size 23 [.int .i64 k, .int .i64 l, .int .i64 v, .int .i64 b]
  be : Below w0.heap.size w0 w
theorem PB.made (w : World) (k l v b : Int) : PB w k l v b (w.alloc (.cells #[.int .i64 k, .int .i64 l, .int .i64 v, .int .i64 b] 23)) := ⟨Has.made w 23 [.int .i64 k, .int .i64 l, .int .i64 v, .int .i64 b], (Below.refl _ _).alloc (Nat.le_refl _) _⟩
theorem PB.step {w0 w w' : World} {k l v b : Int} (h : PB w0 k l v b w) (hb : Below w.heap.size w w') : PB w0 k l v b w' := ⟨h.p.below hb h.p.lt, h.be.trans (hb.mono h.be.size)⟩
theorem PB.drew {w0 w : World} {k l v b : Int} (h : PB w0 k l v b w) : PB w0 k l v b w.drew := h.step (Below.refl _ _).drew
theorem PB.cells {w0 w : World} {k l v b : Int} (h : PB w0 k l v b w) : w.cell? ⟨w0.heap.size, 0, none⟩ = some (.int .i64 k) ∧ w.cell? ⟨w0.heap.size, 1, none⟩ = some (.int .i64 l) ∧ w.cell? ⟨w0.heap.size, 2, none⟩ = some (.int .i64 v) ∧ w.cell? ⟨w0.heap.size, 3, none⟩ = some (.int .i64 b) := ⟨h.p.cell 0, h.p.cell 1, h.p.cell 2, h.p.cell 3⟩
theorem div_bd {t s : Int} (h1 : 0 ≤ t) (h3 : 1 ≤ s) : 0 ≤ t / s ∧ t / s ≤ t := ⟨Int.ediv_nonneg h1 (by omega), Int.ediv_le_self _ h1⟩
set_option maxRecDepth 100000 in
theorem place_any (k l v b sl t : Int) (w : World) (h : RP k l v b sl) (h1 : 0 ≤ t) (h2 : t ≤ 2199023255552) :
    Calls Try.prog 25 #[.agg #[.int .i64 k, .int .i64 l, .int .i64 v, .int .i64 b], .int .i64 t] w fun e w' => e = .returned (.int .i64 (t / sl % b)) ∧ Below w.heap.size w w' := by
  have SL := Lib.hid (fun u => slot_any u h)
  obtain ⟨_, _, v1, v2, b1, b2, s1, s2, _⟩ := h.bd
  obtain ⟨q0, q1⟩ := div_bd h1 s1
  have q2 : 0 ≤ t / sl % b := Int.emod_nonneg _ (by omega)
  have q3 : t / sl % b < b := Int.emod_lt_of_pos _ (by omega)
  have sz : (sl == 0) = false := by simp; omega
  have bz : (b == 0) = false := by simp; omega
  have sn0 : ¬ sl = 0 := by omega
  have bn0 : ¬ b = 0 := by omega
  have e1 : t.tdiv sl = t / sl := tdiv_i h1
  have e2 : (t / sl).tmod b = t / sl % b := tmod_i q0
  have e3 : IntKind.i64.wrap (t / sl) = t / sl := wrap_i (by omega) (by omega)
  have e4 : IntKind.i64.wrap (t / sl % b) = t / sl % b := wrap_i (by omega) (by omega)
  have HP := Lib.hid (PB.made w k l v b)
  clear h
  go_enter Try.func25, Try.ntmps25
  go_wp2_with fail
  go_region_held3 (fun w' => w'.cell? ⟨w.heap.size, 0, none⟩ = some (.int .i64 k) ∧ w'.cell? ⟨w.heap.size, 1, none⟩ = some (.int .i64 l) ∧ w'.cell? ⟨w.heap.size, 2, none⟩ = some (.int .i64 v) ∧ w'.cell? ⟨w.heap.size, 3, none⟩ = some (.int .i64 b)) (first | (with_reducible exact HP.out.drew.cells) | (with_reducible exact H1.out.cells) | go_keep) (first | (go_at_call 36; (with_reducible refine (SL.out _).mono ?_); rintro e w1 ⟨rfl, hb⟩; have H1 := Lib.hid (HP.out.drew.step hb); clear hb))
  all_goals (go_wp2_with fail; go_ret; exact ⟨rfl, H1.out.be⟩)
set_option maxRecDepth 100000 in
theorem number_any (k l v b sl t : Int) (w : World) (h : RP k l v b sl) (h1 : 0 ≤ t) (h2 : t ≤ 2199023255552) :
    Calls Try.prog 28 #[.agg #[.int .i64 k, .int .i64 l, .int .i64 v, .int .i64 b], .int .i64 t] w fun e w' => e = .returned (.int .i64 (t / sl)) ∧ Below w.heap.size w w' := by
  obtain ⟨_, _, v1, v2, b1, b2, s1, s2, _⟩ := h.bd
  obtain ⟨q0, q1⟩ := div_bd h1 s1
  have sz : (sl == 0) = false := by simp; omega
  have bz : (b == 0) = false := by simp; omega
  have hs := h.s
  have e1 : t.tdiv sl = t / sl := tdiv_i h1
  have e2 : v.tdiv b = sl := by rw [tdiv_i (by omega)]; exact hs
  have e3 : IntKind.i64.wrap (t / sl) = t / sl := wrap_i (by omega) (by omega)
  have e4 : IntKind.i64.wrap sl = sl := wrap_i (by omega) (by omega)
  have HP := Lib.hid (PB.made w k l v b)
  clear h
  go_enter Try.func28, Try.ntmps28
  go_wp2_with fail
  go_ret
  exact ⟨rfl, HP.out.be⟩
end Go.Proofs.Ytbmjpfcnagodaaa
