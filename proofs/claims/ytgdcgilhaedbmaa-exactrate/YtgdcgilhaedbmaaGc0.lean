/- The contracts of gcra's small functions. -/
import Derived.Test.YtgdcgilhaedbmaaPol2
import Derived.Test.YtgdcgilhaedbmaaNums1
import Derived.Deep.RegionHeld3
-- prune
namespace Go.Proofs.Ytgdcgilhaedbmaa
open Go.ChangeShapes Go.WideShapes Go.ChangeAt Go.RowKit
set_option linter.unusedVariables false

theorem wrap_i {x : Int} (h1 : -9223372036854775808 ≤ x) (h2 : x < 9223372036854775808) : IntKind.i64.wrap x = x := by
  simp [IntKind.wrap, IntKind.signed, IntKind.bits]; omega
theorem quiet_mine {P : Program} {f : FuncId} {args : Array Value} {w : World} {n : Nat} {v : Value}
    (h : Calls P f args (w.drewN n) fun e w' => e = .returned v ∧ w.drewN n = w') : Calls P f args (w.drewN n) fun e w'' => e = .returned v ∧ ∃ m, w'' = w.drewN m :=
  h.mono fun _ _ ⟨he, hm⟩ => ⟨he, n, hm.symm⟩
theorem rTime_yes (t : Int) (w : World) (h1 : 0 ≤ t) (h2 : t ≤ 1099511627776) : Calls Try.prog 28 #[.int .i64 t] w fun e w' => e = .returned (.bool true) ∧ w = w' := by
  go_enter Try.func28, Try.ntmps28
  go_wp2
  go_ret
  exact ⟨rfl, rfl⟩
theorem rTime_no (t : Int) (w : World) (h : ¬ (0 ≤ t ∧ t ≤ 1099511627776)) : Calls Try.prog 28 #[.int .i64 t] w fun e w' => e = .returned (.bool false) ∧ w = w' := by
  by_cases h1 : 0 ≤ t
  · have d : decide (t ≤ 1099511627776) = false := by simp; omega
    clear h
    go_enter Try.func28, Try.ntmps28
    go_wp2
    go_ret
    exact ⟨rfl, rfl⟩
  · clear h
    go_enter Try.func28, Try.ntmps28
    go_wp2
    go_ret
    exact ⟨rfl, rfl⟩

/-- A product of numbers that are not great. -/
theorem prod_bd {a b A B : Int} (h1 : 0 ≤ a) (h2 : a ≤ A) (h3 : 0 ≤ b) (h4 : b ≤ B) : 0 ≤ a * b ∧ a * b ≤ A * B :=
  ⟨Int.mul_nonneg h1 h3, Int.mul_le_mul h2 h4 h3 (by omega)⟩
theorem mulS_small {a b : Int} (h : a * b ≤ 18446744073709551615) : mulS a b 18446744073709551615 = a * b := by unfold mulS; omega
theorem upS_bd {n l : Int} (h1 : 0 ≤ n) (h2 : 1 ≤ l) : 0 ≤ upS n l ∧ upS n l ≤ n := by
  unfold upS
  rw [if_neg (by omega)]
  have q1 : 0 ≤ n / l := Int.ediv_nonneg h1 (by omega)
  have q2 : n / l ≤ n := Int.ediv_le_self _ h1
  split
  · omega
  · rename_i h
    by_cases e : l = 1
    · subst e; simp at h
    · have q3 : l * (n / l) + n % l = n := Int.mul_ediv_add_emod n l
      have q4 : 0 ≤ n % l := Int.emod_nonneg _ (by omega)
      have q5 : 2 * (n / l) ≤ l * (n / l) := Int.mul_le_mul_of_nonneg_right (by omega) q1
      by_cases z : n / l = 0
      · rw [z] at q3 ⊢; simp at q3; omega
      · omega
/-- A policy and a cell, in two new blocks. -/
structure PC (w0 : World) (k l v b a n : Int) (x y : Value) (w : World) : Prop where
  p0 : w.cell? ⟨w0.heap.size, 0, none⟩ = some (.int .i64 k)
  p1 : w.cell? ⟨w0.heap.size, 1, none⟩ = some (.int .i64 l)
  p2 : w.cell? ⟨w0.heap.size, 2, none⟩ = some (.int .i64 v)
  p3 : w.cell? ⟨w0.heap.size, 3, none⟩ = some (.int .i64 b)
  c0 : w.cell? ⟨w0.heap.size + 1, 0, none⟩ = some (.int .i64 a)
  c1 : w.cell? ⟨w0.heap.size + 1, 1, none⟩ = some (.int .i64 n)
  c2 : w.cell? ⟨w0.heap.size + 1, 2, none⟩ = some x
  c3 : w.cell? ⟨w0.heap.size + 1, 3, none⟩ = some y
  be : Below w0.heap.size w0 w
  sz : w0.heap.size + 1 < w.heap.size
theorem PC.made (w : World) (k l v b a n : Int) (x y : Value) (t t' : TypeId) : PC w k l v b a n x y ((w.alloc (.cells #[.int .i64 k, .int .i64 l, .int .i64 v, .int .i64 b] t)).alloc (.cells #[.int .i64 a, .int .i64 n, x, y] t')) :=
  ⟨by go_simp, by go_simp, by go_simp, by go_simp, by go_simp, by go_simp, by go_simp, by go_simp, ((Below.refl _ _).alloc (Nat.le_refl _) _).alloc (by simp) _, by simp⟩
theorem PC.step {w0 w w' : World} {k l v b a n : Int} {x y : Value} (h : PC w0 k l v b a n x y w) (hb : Below w.heap.size w w') : PC w0 k l v b a n x y w' := by
  have s := h.sz
  have s' : w0.heap.size < w.heap.size := by omega
  exact ⟨(hb.cell (p := ⟨_, 0, none⟩) s').trans h.p0, (hb.cell (p := ⟨_, 1, none⟩) s').trans h.p1, (hb.cell (p := ⟨_, 2, none⟩) s').trans h.p2, (hb.cell (p := ⟨_, 3, none⟩) s').trans h.p3, (hb.cell (p := ⟨_, 0, none⟩) s).trans h.c0, (hb.cell (p := ⟨_, 1, none⟩) s).trans h.c1, (hb.cell (p := ⟨_, 2, none⟩) s).trans h.c2, (hb.cell (p := ⟨_, 3, none⟩) s).trans h.c3, h.be.trans (hb.mono h.be.size), Nat.lt_of_lt_of_le h.sz hb.size⟩
theorem PC.drew {w0 w : World} {k l v b a n : Int} {x y : Value} (h : PC w0 k l v b a n x y w) : PC w0 k l v b a n x y w.drew := ⟨h.p0, h.p1, h.p2, h.p3, h.c0, h.c1, h.c2, h.c3, h.be.drew, h.sz⟩
theorem PC.drewN {w0 w : World} {k l v b a n : Int} {x y : Value} (h : PC w0 k l v b a n x y w) (m : Nat) : PC w0 k l v b a n x y (w.drewN m) := by
  exact ⟨h.p0, h.p1, h.p2, h.p3, h.c0, h.c1, h.c2, h.c3, ⟨h.be.os, h.be.tape, h.be.output, h.be.size, h.be.block⟩, h.sz⟩
theorem PC.alloc {w0 w : World} {k l v b a n : Int} {x y : Value} (h : PC w0 k l v b a n x y w) (o : Obj) : PC w0 k l v b a n x y (w.alloc o) := h.step ((Below.refl _ _).alloc (Nat.le_refl _) o)

/-- What is in a bucket at a time that is not below a. -/
def levG (l a n t : Int) : Int := subS n ((t - a) * l)
theorem subS_bd {a b : Int} (h1 : 0 ≤ a) (h2 : 0 ≤ b) : 0 ≤ subS a b ∧ subS a b ≤ a := by unfold subS; split <;> omega
end Go.Proofs.Ytgdcgilhaedbmaa
