/- A Recent, as it lies in memory. -/
import Derived.Test.YtjkejlnelkckgaaRcR
import Derived.Handy
import Derived.Deep.QuietTactic
import Derived.BigQuiet
import Derived.WalkSpells
namespace Go.Proofs.Ytjkejlnelkckgaa
open Go.ChangeShapes Go.WideShapes Go.ChangeAt Go.RowKit
set_option linter.unusedVariables false

/-- Links, as elements of a map. -/
def lkE : Elem (Int × Int) where
  val p := .agg #[.int .i64 p.1, .int .i64 p.2]
  dat p := .agg [.lit (.int .i64 p.1), .lit (.int .i64 p.2)]
  zero := (0, 0)
  valI := fun ⟨a, b⟩ ⟨d, e⟩ h => by
    simp only [Value.agg.injEq] at h
    have h1 := congrArg Array.toList h
    simp at h1
    obtain ⟨rfl, rfl⟩ := h1
    rfl
  datI := fun ⟨a, b⟩ ⟨d, e⟩ h => by
    simp at h
    obtain ⟨rfl, rfl⟩ := h
    rfl
theorem Try.zeroLk (w : World) : (zeroValue 46).run Try.prog w = .ok (lkE.val lkE.zero) w := by
  have : (Try.prog.info? 46).map (fun i => i.zero) = some (some (.agg #[.int .i64 0, .int .i64 0])) := by kernel_rfl
  cases h : Try.prog.info? 46 with
  | none => rw [h] at this; cases this
  | some i => rw [h] at this; simp at this; simp [zeroValue, typeInfo, h, this, lkE]
structure IsRc (w : World) (bP bM : Nat) (f : Lk) (n : Nat) : Prop where
  hd : Has w bP 49 [.map (some bM)]
  mp : IMap lkE w bM f n
def two (bP bM b : Nat) : Prop := b = bP ∨ b = bM
section
variable {w w' : World} {bP bM : Nat} {f : Lk} {n : Nat}
theorem IsRc.pM (h : IsRc w bP bM f n) : w.cell? ⟨bP, 0, none⟩ = some (.map (some bM)) := h.hd.cell 0
theorem IsRc.ne (h : IsRc w bP bM f n) : bM ≠ bP := h.mp.ne h.hd
theorem IsRc.kept {F : Nat → Prop} (h : IsRc w bP bM f n) (hk : Kept F w w') (h1 : ¬ F bP) (h2 : ¬ F bM) : IsRc w' bP bM f n := ⟨h.hd.kept hk h1, h.mp.kept hk h2⟩
theorem IsRc.below (h : IsRc w bP bM f n) (hb : Below w.heap.size w w') : IsRc w' bP bM f n := h.kept (F := fun _ => False) (Kept.of_below hb) id id
theorem IsRc.drew (h : IsRc w bP bM f n) : IsRc w.drew bP bM f n := h.below (Below.refl _ _).drew
theorem IsRc.map (h : IsRc w bP bM f n) {f' : Lk} {n' : Nat} (hm : IMap lkE w' bM f' n') (hk : Kept (fun y => y = bM) w w') : IsRc w' bP bM f' n' := ⟨h.hd.kept hk (fun e => h.ne e.symm), hm⟩
end
theorem two_bM {bP bM : Nat} {w w' : World} (h : Kept (fun y => y = bM) w w') : Kept (two bP bM) w w' := h.mono (fun _ _ e => .inr e)
theorem two_trans {bP bM : Nat} {a b c : World} (h : Kept (two bP bM) a b) (k : Kept (two bP bM) b c) : Kept (two bP bM) a c := h.trans k (fun _ e => .inl e)
/-- The Recent is so now; nothing but its blocks, and new ones, has changed. -/
def RcTells (bP bM : Nat) (f' : Lk) (n' : Nat) (v : Value) (w : World) (e : Ending) (w' : World) : Prop :=
  e = .returned v ∧ IsRc w' bP bM f' n' ∧ Kept (two bP bM) w w'

/-! Calls of a nil one. -/
theorem made_nil (w : World) : Calls Try.prog 21 #[.pointer none] w fun e w' => e = .returned (.bool false) ∧ w = w' := by
  go_enter Try.func21, Try.ntmps21
  go_wp2
  go_ret
  exact ⟨rfl, rfl⟩
theorem made_any (bP bM : Nat) (f : Lk) (n : Nat) (w : World) (h : IsRc w bP bM f n) : Calls Try.prog 21 #[.pointer (some ⟨bP, 0, none⟩)] w fun e w' => e = .returned (.bool true) ∧ w = w' := by
  have pM := h.pM
  have qT := fun u => run_neq_map_nil (P := Try.prog) u 47 _ _ (some bM) Try.underlying47
  simp only [Option.isNone_some, Bool.not_false] at qT
  clear h
  go_enter Try.func21, Try.ntmps21
  go_wp2
  go_ret
  exact ⟨rfl, rfl⟩
theorem behind_nil (k : Int) (w : World) : Calls Try.prog 24 #[.pointer none, .int .i64 k] w fun e w' => e = .returned (.tuple #[.int .i64 0, .bool false]) ∧ w = w' := by
  go_enter Try.func24, Try.ntmps24
  go_wp2_with fail
  refine (made_nil w).mono ?_
  rintro e w1 ⟨rfl, rfl⟩
  go_wp2
  go_ret2
  exact ⟨rfl, rfl⟩
theorem Drop_nil (k : Int) (w : World) : Calls Try.prog 12 #[.pointer none, .int .i64 k] w fun e w' => e = .returned (.bool false) ∧ w = w' := by
  go_enter Try.func12, Try.ntmps12
  go_wp2_with fail
  refine (made_nil w).mono ?_
  rintro e w1 ⟨rfl, rfl⟩
  go_wp2
  go_ret
  exact ⟨rfl, rfl⟩
theorem Touch_nil (k : Int) (w : World) : Calls Try.prog 10 #[.pointer none, .int .i64 k] w fun e w' => e = .returned (.int .i64 1) ∧ w = w' := by
  go_enter Try.func10, Try.ntmps10
  go_wp2_with fail
  refine (made_nil w).mono ?_
  rintro e w1 ⟨rfl, rfl⟩
  go_wp2
  go_ret
  exact ⟨rfl, rfl⟩
theorem Len_nil (w : World) : Calls Try.prog 18 #[.pointer none] w fun e w' => e = .returned (.int .i64 0) ∧ w = w' := by
  go_enter Try.func18, Try.ntmps18
  go_wp2_with fail
  refine (made_nil w).mono ?_
  rintro e w1 ⟨rfl, rfl⟩
  go_wp2
  go_ret
  exact ⟨rfl, rfl⟩
theorem Oldest_nil (w : World) : Calls Try.prog 14 #[.pointer none] w fun e w' => e = .returned (.tuple #[.int .i64 0, .bool false]) ∧ w = w' := by
  go_enter Try.func14, Try.ntmps14
  go_wp2_with fail
  refine (behind_nil (-1) w).mono ?_
  rintro e w1 ⟨rfl, rfl⟩
  go_wp2
  go_ret2
  exact ⟨rfl, rfl⟩
theorem Newer_nil (k : Int) (w : World) : Calls Try.prog 16 #[.pointer none, .int .i64 k] w fun e w' => e = .returned (.tuple #[.int .i64 0, .bool false]) ∧ w = w' := by
  by_cases h : k < 0
  · go_enter Try.func16, Try.ntmps16
    go_wp2
    go_ret2
    exact ⟨rfl, rfl⟩
  · go_enter Try.func16, Try.ntmps16
    go_wp2_with fail
    refine (behind_nil k w).mono ?_
    rintro e w1 ⟨rfl, rfl⟩
    go_wp2
    go_ret2
    exact ⟨rfl, rfl⟩
theorem Order_nil (w : World) : Calls Try.prog 20 #[.pointer none] w fun e w' => e = .returned (.slice none 0 0) ∧ w = w' := by
  go_enter Try.func20, Try.ntmps20
  go_wp2_with fail
  refine (Oldest_nil w).mono ?_
  rintro e w1 ⟨rfl, rfl⟩
  go_wp2_with fail
  refine wp_loop_rounds 1 ?_
  rw [rounds_succ]
  go_wp2
  go_ret
  exact ⟨rfl, rfl⟩
end Go.Proofs.Ytjkejlnelkckgaa
