/- The contracts of gcra's small functions. -/
import Derived.Test.YtdmephlappmmdaaPol2
import Derived.Test.YtdmephlappmmdaaNums1
import Derived.Deep.RegionHeld3
-- prune
namespace Go.Proofs.Ytdmephlappmmdaa
open Go.ChangeShapes Go.WideShapes Go.ChangeAt Go.RowKit
set_option linter.unusedVariables false

theorem wrap_i {x : Int} (h1 : -9223372036854775808 ≤ x) (h2 : x < 9223372036854775808) : IntKind.i64.wrap x = x := by
  simp [IntKind.wrap, IntKind.signed, IntKind.bits]; omega
theorem quiet_mine {P : Program} {f : FuncId} {args : Array Value} {w : World} {n : Nat} {v : Value}
    (h : Calls P f args (w.drewN n) fun e w' => e = .returned v ∧ w.drewN n = w') : Calls P f args (w.drewN n) fun e w'' => e = .returned v ∧ ∃ m, w'' = w.drewN m :=
  h.mono fun _ _ ⟨he, hm⟩ => ⟨he, n, hm.symm⟩
theorem isTick_yes (t : Int) (w : World) (h1 : 0 ≤ t) (h2 : t ≤ 1099511627776) : Calls Try.prog 21 #[.int .i64 t] w fun e w' => e = .returned (.bool true) ∧ w = w' := by
  go_enter Try.func21, Try.ntmps21
  go_wp2
  go_ret
  exact ⟨rfl, rfl⟩
theorem isTick_no (t : Int) (w : World) (h : ¬ (0 ≤ t ∧ t ≤ 1099511627776)) : Calls Try.prog 21 #[.int .i64 t] w fun e w' => e = .returned (.bool false) ∧ w = w' := by
  by_cases h1 : 0 ≤ t
  · have d : decide (t ≤ 1099511627776) = false := by simp; omega
    clear h
    go_enter Try.func21, Try.ntmps21
    go_wp2
    go_ret
    exact ⟨rfl, rfl⟩
  · clear h
    go_enter Try.func21, Try.ntmps21
    go_wp2
    go_ret
    exact ⟨rfl, rfl⟩
theorem rTime_yes (t : Int) (w : World) (h1 : 0 ≤ t) (h2 : t ≤ 1099511627776) : Calls Try.prog 29 #[.int .i64 t] w fun e w' => e = .returned (.bool true) ∧ w = w' := by
  go_enter Try.func29, Try.ntmps29
  go_wp2
  go_ret
  exact ⟨rfl, rfl⟩
theorem rTime_no (t : Int) (w : World) (h : ¬ (0 ≤ t ∧ t ≤ 1099511627776)) : Calls Try.prog 29 #[.int .i64 t] w fun e w' => e = .returned (.bool false) ∧ w = w' := by
  by_cases h1 : 0 ≤ t
  · have d : decide (t ≤ 1099511627776) = false := by simp; omega
    clear h
    go_enter Try.func29, Try.ntmps29
    go_wp2
    go_ret
    exact ⟨rfl, rfl⟩
  · clear h
    go_enter Try.func29, Try.ntmps29
    go_wp2
    go_ret
    exact ⟨rfl, rfl⟩

/-- A product of numbers that are not great. -/
theorem prod_bd {a b A B : Int} (h1 : 0 ≤ a) (h2 : a ≤ A) (h3 : 0 ≤ b) (h4 : b ≤ B) : 0 ≤ a * b ∧ a * b ≤ A * B :=
  ⟨Int.mul_nonneg h1 h3, Int.mul_le_mul h2 h4 h3 (by omega)⟩
theorem mulS_small {a b : Int} (h : a * b ≤ 18446744073709551615) : mulS a b 18446744073709551615 = a * b := by unfold mulS; omega
theorem product_any (a b : Int) (w : World) (h1 : 0 ≤ a) (h2 : a ≤ 1099511627776) (h3 : 0 ≤ b) (h4 : b ≤ 1048576) :
    Calls Try.prog 33 #[.int .i64 a, .int .i64 b] w fun e w' => e = .returned (.int .u64 (a * b)) ∧ w = w' := by
  have hp := prod_bd h1 h2 h3 h4
  have hm := Mul_any a b 18446744073709551615 w (by unfold U64; omega) (by unfold U64; omega) (by unfold U64; omega)
  rw [mulS_small (by omega)] at hm
  have HM := Lib.hid hm
  clear hm hp
  go_enter Try.func33, Try.ntmps33
  go_wp2_with fail
  refine HM.out.mono ?_; rintro e w' ⟨rfl, rfl⟩
  go_wp2_with fail
  go_ret
  exact ⟨rfl, rfl⟩
theorem less_any (a b : Int) (w : World) (ha : U64 a) (hb : U64 b) : Calls Try.prog 25 #[.int .u64 a, .int .u64 b] w fun e w' => e = .returned (.int .u64 (subS a b)) ∧ w = w' := by
  have HM := Lib.hid (Sub_any a b w ha hb)
  clear ha hb
  go_enter Try.func25, Try.ntmps25
  go_wp2_with fail
  refine HM.out.mono ?_; rintro e w' ⟨rfl, rfl⟩
  go_wp2_with fail
  go_ret
  exact ⟨rfl, rfl⟩
theorem worth_any (k l v b n : Int) (w : World) (h1 : 0 ≤ n) (h2 : n ≤ 1048576) (h3 : 0 ≤ v) (h4 : v ≤ 1048576) :
    Calls Try.prog 24 #[.agg #[.int .i64 k, .int .i64 l, .int .i64 v, .int .i64 b], .int .i64 n] w fun e w' => e = .returned (.int .u64 (n * v)) ∧ Below w.heap.size w w' := by
  have HM := Lib.hid (fun u => product_any n v u h1 (by omega) h3 h4)
  go_enter Try.func24, Try.ntmps24
  go_wp2_with fail
  refine (HM.out _).mono ?_; rintro e w' ⟨rfl, rfl⟩
  go_wp2_with fail
  go_ret
  exact ⟨rfl, (Below.refl _ _).alloc (Nat.le_refl _) _⟩
theorem full_any (k l v b : Int) (w : World) (h1 : 0 ≤ l) (h2 : l ≤ 1048576) (h3 : 0 ≤ v) (h4 : v ≤ 1048576) :
    Calls Try.prog 26 #[.agg #[.int .i64 k, .int .i64 l, .int .i64 v, .int .i64 b]] w fun e w' => e = .returned (.int .u64 (l * v)) ∧ Below w.heap.size w w' := by
  have HM := Lib.hid (fun u => worth_any k l v b l u h1 h2 h3 h4)
  have hm := Lib.hid (PolAt.made w k l v b 23)
  go_enter Try.func26, Try.ntmps26
  go_wp2_with fail
  refine (HM.out _).mono ?_; rintro e w1 ⟨rfl, hb⟩
  have HP := Lib.hid (hm.out.step hb)
  clear hb
  go_wp2_with fail
  go_ret
  exact ⟨rfl, HP.out.be⟩
theorem upS_bd {n l : Int} (h1 : 0 ≤ n) (h2 : 1 ≤ l) : 0 ≤ upS n l ∧ upS n l ≤ n := by
  unfold upS
  rw [if_neg (by omega)]
  have q1 : 0 ≤ n / l := Int.ediv_nonneg h1 (by omega)
  have q2 : n / l ≤ n := Int.ediv_le_self _ h1
  split
  · omega
  · rename_i h
    by_cases e : l = 1
    · subst e; simp at h
    · have q3 : l * (n / l) + n % l = n := Int.mul_ediv_add_emod n l
      have q4 : 0 ≤ n % l := Int.emod_nonneg _ (by omega)
      have q5 : 2 * (n / l) ≤ l * (n / l) := Int.mul_le_mul_of_nonneg_right (by omega) q1
      by_cases z : n / l = 0
      · rw [z] at q3 ⊢; simp at q3; omega
      · omega
theorem lasts_any (n k l v b : Int) (w : World) (h1 : 0 ≤ n) (h2 : n ≤ 4398046511104) (h3 : 1 ≤ l) (h4 : l ≤ 1048576) :
    Calls Try.prog 28 #[.int .u64 n, .agg #[.int .i64 k, .int .i64 l, .int .i64 v, .int .i64 b]] w fun e w' => e = .returned (.int .i64 (upS n l)) ∧ Below w.heap.size w w' := by
  have HM := Lib.hid (fun u => Up_any n l u (by unfold U64; omega) (by unfold U64; omega))
  have q := upS_bd h1 h3
  obtain ⟨q1, q2⟩ := q
  generalize upS n l = r at *
  go_enter Try.func28, Try.ntmps28
  go_wp2_with fail
  refine (HM.out _).mono ?_; rintro e w' ⟨rfl, rfl⟩
  go_wp2_with fail
  go_ret
  exact ⟨rfl, (Below.refl _ _).alloc (Nat.le_refl _) _⟩
theorem weight_any (n k l v b : Int) (w : World) (h1 : 0 ≤ n) (h2 : n ≤ 4398046511104) (h3 : 1 ≤ v) (h4 : v ≤ 1048576) :
    Calls Try.prog 27 #[.int .u64 n, .agg #[.int .i64 k, .int .i64 l, .int .i64 v, .int .i64 b]] w fun e w' => e = .returned (.int .i64 (n / v)) ∧ Below w.heap.size w w' := by
  have hz : (v == 0) = false := by simp; omega
  have q1 : 0 ≤ n / v := Int.ediv_nonneg (by omega) (by omega)
  have q2 : n / v ≤ n := Int.ediv_le_self _ (by omega)
  go_enter Try.func27, Try.ntmps27
  go_wp2
  go_ret
  exact ⟨rfl, (Below.refl _ _).alloc (Nat.le_refl _) _⟩

/-- A policy and a cell, in two new blocks. -/
structure PC (w0 : World) (k l v b a n : Int) (x y : Value) (w : World) : Prop where
  p0 : w.cell? ⟨w0.heap.size, 0, none⟩ = some (.int .i64 k)
  p1 : w.cell? ⟨w0.heap.size, 1, none⟩ = some (.int .i64 l)
  p2 : w.cell? ⟨w0.heap.size, 2, none⟩ = some (.int .i64 v)
  p3 : w.cell? ⟨w0.heap.size, 3, none⟩ = some (.int .i64 b)
  c0 : w.cell? ⟨w0.heap.size + 1, 0, none⟩ = some (.int .i64 a)
  c1 : w.cell? ⟨w0.heap.size + 1, 1, none⟩ = some (.int .i64 n)
  c2 : w.cell? ⟨w0.heap.size + 1, 2, none⟩ = some x
  c3 : w.cell? ⟨w0.heap.size + 1, 3, none⟩ = some y
  be : Below w0.heap.size w0 w
  sz : w0.heap.size + 1 < w.heap.size
theorem PC.made (w : World) (k l v b a n : Int) (x y : Value) (t t' : TypeId) : PC w k l v b a n x y ((w.alloc (.cells #[.int .i64 k, .int .i64 l, .int .i64 v, .int .i64 b] t)).alloc (.cells #[.int .i64 a, .int .i64 n, x, y] t')) :=
  ⟨by go_simp, by go_simp, by go_simp, by go_simp, by go_simp, by go_simp, by go_simp, by go_simp, ((Below.refl _ _).alloc (Nat.le_refl _) _).alloc (by simp) _, by simp⟩
theorem PC.step {w0 w w' : World} {k l v b a n : Int} {x y : Value} (h : PC w0 k l v b a n x y w) (hb : Below w.heap.size w w') : PC w0 k l v b a n x y w' := by
  have s := h.sz
  have s' : w0.heap.size < w.heap.size := by omega
  exact ⟨(hb.cell (p := ⟨_, 0, none⟩) s').trans h.p0, (hb.cell (p := ⟨_, 1, none⟩) s').trans h.p1, (hb.cell (p := ⟨_, 2, none⟩) s').trans h.p2, (hb.cell (p := ⟨_, 3, none⟩) s').trans h.p3, (hb.cell (p := ⟨_, 0, none⟩) s).trans h.c0, (hb.cell (p := ⟨_, 1, none⟩) s).trans h.c1, (hb.cell (p := ⟨_, 2, none⟩) s).trans h.c2, (hb.cell (p := ⟨_, 3, none⟩) s).trans h.c3, h.be.trans (hb.mono h.be.size), Nat.lt_of_lt_of_le h.sz hb.size⟩
theorem PC.drew {w0 w : World} {k l v b a n : Int} {x y : Value} (h : PC w0 k l v b a n x y w) : PC w0 k l v b a n x y w.drew := ⟨h.p0, h.p1, h.p2, h.p3, h.c0, h.c1, h.c2, h.c3, h.be.drew, h.sz⟩
theorem PC.drewN {w0 w : World} {k l v b a n : Int} {x y : Value} (h : PC w0 k l v b a n x y w) (m : Nat) : PC w0 k l v b a n x y (w.drewN m) := by
  exact ⟨h.p0, h.p1, h.p2, h.p3, h.c0, h.c1, h.c2, h.c3, ⟨h.be.os, h.be.tape, h.be.output, h.be.size, h.be.block⟩, h.sz⟩
theorem PC.alloc {w0 w : World} {k l v b a n : Int} {x y : Value} (h : PC w0 k l v b a n x y w) (o : Obj) : PC w0 k l v b a n x y (w.alloc o) := h.step ((Below.refl _ _).alloc (Nat.le_refl _) o)

/-- What is in a bucket at a time that is not below a. -/
def levG (l a n t : Int) : Int := subS n ((t - a) * l)
theorem subS_bd {a b : Int} (h1 : 0 ≤ a) (h2 : 0 ≤ b) : 0 ≤ subS a b ∧ subS a b ≤ a := by unfold subS; split <;> omega
set_option maxRecDepth 100000 in
theorem level_any (k l v b a n t : Int) (sa ha : Option Addr) (sn sc hn hc : Nat) (w : World) (h1 : 0 ≤ a) (h2 : a ≤ t) (h3 : t ≤ 1099511627776) (h4 : 0 ≤ n) (h5 : n ≤ 1099511627776) (h6 : 0 ≤ l) (h7 : l ≤ 1048576) :
    Calls Try.prog 23 #[.agg #[.int .i64 k, .int .i64 l, .int .i64 v, .int .i64 b], .agg #[.int .i64 a, .int .i64 n, .slice sa sn sc, .slice ha hn hc], .int .i64 t] w fun e w' => e = .returned (.int .u64 (levG l a n t)) ∧ Below w.heap.size w w' := by
  have q := prod_bd (show 0 ≤ t - a by omega) (show t - a ≤ 1099511627776 by omega) h6 h7
  have P1 := Lib.hid (fun u => product_any (t - a) l u (by omega) (by omega) h6 h7)
  have P2 := Lib.hid (fun u => less_any n ((t - a) * l) u (by unfold U64; omega) (by unfold U64; omega))
  have E := Lib.hid (show subS n ((t - a) * l) = levG l a n t from rfl)
  have HP := Lib.hid (PC.made w k l v b a n (.slice sa sn sc) (.slice ha hn hc) 23 27)
  have e1 : IntKind.i64.wrap (t - a) = t - a := wrap_i (by omega) (by omega)
  have e2 : IntKind.u64.wrap n = n := wrap_id (by unfold U64; omega)
  clear q h1 h2 h3 h4 h5 h6 h7
  go_enter Try.func23, Try.ntmps23
  go_wp2_with fail
  go_quiet ((first | (go_at_call 33; exact quiet_mine (P1.out _)) | (go_at_call 25; exact quiet_mine (P2.out _))))
  go_wp2_with fail
  go_ret
  exact ⟨ret_int E.out, (HP.out.drewN _).be⟩
end Go.Proofs.Ytdmephlappmmdaa
