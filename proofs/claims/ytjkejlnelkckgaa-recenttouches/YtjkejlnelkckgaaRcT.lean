/- A Recent told by its ids in order: the contracts of its calls. -/
import Derived.Test.YtjkejlnelkckgaaRc2
import Derived.Test.YtjkejlnelkckgaaInts0
namespace Go.Proofs.Ytjkejlnelkckgaa
open Go.ChangeShapes Go.WideShapes Go.ChangeAt Go.RowKit
set_option linter.unusedVariables false

def cI (l : List Nat) : List Int := l.map fun (x : Nat) => (x : Int)
theorem cI_len (l : List Nat) : (cI l).length = l.length := by simp [cI]
theorem cI_mem {l : List Nat} {x : Nat} : (x : Int) ∈ cI l ↔ x ∈ l := by
  unfold cI
  rw [List.mem_map]
  constructor
  · rintro ⟨y, hy, e⟩
    have : y = x := by omega
    rw [← this]; exact hy
  · intro h; exact ⟨x, h, rfl⟩
theorem cI_at (l : List Nat) (i : Nat) : (cI l)[i]? = (l[i]?).map fun (x : Nat) => (x : Int) := by unfold cI; rw [List.getElem?_map]
theorem cI_app (a b : List Nat) : cI (a ++ b) = cI a ++ cI b := by simp [cI]
theorem cI_cons (x : Nat) (l : List Nat) : cI (x :: l) = (x : Int) :: cI l := rfl
/-- A Recent of these ids lies there. -/
def RC (w : World) (bP bM : Nat) (l : List Nat) : Prop := ∃ f, IsRc w bP bM f (l.length + 1) ∧ RepL (cI l) f
def RcT (bP bM : Nat) (l : List Nat) (v : Value) (w : World) (e : Ending) (w' : World) : Prop := e = .returned v ∧ RC w' bP bM l ∧ Kept (two bP bM) w w'
section
variable {w w' : World} {bP bM : Nat} {l : List Nat}
theorem RC.kept {F : Nat → Prop} (h : RC w bP bM l) (hk : Kept F w w') (h1 : ¬ F bP) (h2 : ¬ F bM) : RC w' bP bM l := by
  obtain ⟨f, a, b⟩ := h
  exact ⟨f, a.kept hk h1 h2, b⟩
theorem RC.below (h : RC w bP bM l) (hb : Below w.heap.size w w') : RC w' bP bM l := h.kept (F := fun _ => False) (Kept.of_below hb) id id
theorem RC.lt (h : RC w bP bM l) : bP < w.heap.size ∧ bM < w.heap.size := by obtain ⟨f, a, b⟩ := h; exact ⟨a.hd.lt, a.mp.lt⟩
theorem RC.nd (h : RC w bP bM l) : l.Nodup := by
  obtain ⟨f, a, b⟩ := h
  exact (List.pairwise_map.1 b.nd).imp (fun h e => h (by rw [e]))
theorem RC.bd (h : RC w bP bM l) {x : Nat} (hx : x ∈ l) : x ≤ 9223372036854775807 := by
  obtain ⟨f, a, b⟩ := h
  have := (b.bd _ (cI_mem.2 hx)).2
  omega
end
theorem I64_nat {x : Nat} (h : x ≤ 9223372036854775807) : I64 (x : Int) := by unfold I64; omega
theorem I64_ring {l : List Int} (h : ∀ x ∈ l, 0 ≤ x ∧ x ≤ 9223372036854775807) (i : Nat) : I64 (ringI l i) := by
  cases i with
  | zero => rw [ringI_zero]; unfold I64; omega
  | succ i =>
    rcases Nat.lt_or_ge i l.length with g | g
    · have := h _ (ringI_mem g); unfold I64; omega
    · rw [ringI_end (by omega)]; unfold I64; omega
section
variable (bP bM : Nat) (l : List Nat) (w : World) (h : RC w bP bM l)
include h
theorem Len_T (hl : l.length ≤ 1000) : Calls Try.prog 18 #[.pointer (some ⟨bP, 0, none⟩)] w fun e w' => e = .returned (.int .i64 (l.length : Int)) ∧ w = w' := by
  obtain ⟨f, a, b⟩ := h
  have HM := Lib.hid (made_any bP bM f _ w a)
  have pM := a.pM
  have HMP := Lib.hid a.mp
  clear a b
  generalize l.length = n at *
  go_enter Try.func18, Try.ntmps18
  go_wp2_with fail
  refine HM.out.mono ?_
  rintro e w1 ⟨rfl, rfl⟩
  go_wp2_with (at_len; refine wpList_mlen lkE w rfl _ 47 46 rfl Try.underlying47 bM (n + 1) f rfl HMP.out ?_)
  go_ret
  exact ⟨by simp, rfl⟩
theorem Oldest_T : Calls Try.prog 14 #[.pointer (some ⟨bP, 0, none⟩)] w fun e w' => e = .returned (.tuple #[.int .i64 ((l.head?.map fun (x : Nat) => (x : Int)).getD 0), .bool l.head?.isSome]) ∧ Below w.heap.size w w' := by
  obtain ⟨f, a, b⟩ := h
  have hB : Calls Try.prog 24 #[.pointer (some ⟨bP, 0, none⟩), .int .i64 (-1)] w fun e w' => e = .returned (.tuple #[.int .i64 ((l.head?.map fun (x : Nat) => (x : Int)).getD 0), .bool l.head?.isSome]) ∧ Below w.heap.size w w' := by
    have he := b.at_end
    cases l with
    | nil => exact behind_end bP bM f _ (-1) _ w a (by unfold I64; omega) he
    | cons x l => exact behind_some bP bM f _ (-1) _ _ w a (by unfold I64; omega) he (by show ((x : Nat) : Int) ≠ -1; omega)
  have HB := Lib.hid hB
  clear a b hB
  generalize (l.head?.map fun (x : Nat) => (x : Int)).getD 0 = q at *
  generalize l.head?.isSome = r at *
  go_enter Try.func14, Try.ntmps14
  go_wp2_with fail
  refine HB.out.mono ?_
  rintro e w1 ⟨rfl, hb⟩
  have HB1 := Lib.hid hb
  clear hb HB
  go_wp2
  go_ret2
  exact ⟨rfl, HB1.out⟩
/-- What stands behind the i-th one. -/
theorem Newer_at (i x : Nat) (hx : l[i]? = some x) : Calls Try.prog 16 #[.pointer (some ⟨bP, 0, none⟩), .int .i64 (x : Int)] w fun e w' => e = .returned (.tuple #[.int .i64 (((l[i + 1]?).map fun (x : Nat) => (x : Int)).getD 0), .bool (l[i + 1]?).isSome]) ∧ Below w.heap.size w w' := by
  have hbd := h.bd (List.mem_of_getElem? hx)
  obtain ⟨f, a, b⟩ := h
  have hB : Calls Try.prog 24 #[.pointer (some ⟨bP, 0, none⟩), .int .i64 (x : Int)] w fun e w' => e = .returned (.tuple #[.int .i64 (((l[i + 1]?).map fun (x : Nat) => (x : Int)).getD 0), .bool (l[i + 1]?).isSome]) ∧ Below w.heap.size w w' := by
    have he := b.at_in (i := i) (x := (x : Int)) (by rw [cI_at, hx]; rfl)
    cases hn : l[i + 1]? with
    | none =>
      rw [ringI_end (i := i + 2) (by rw [cI_len]; have := List.getElem?_eq_none_iff.1 hn; omega)] at he
      exact behind_end bP bM f _ _ _ w a (I64_nat hbd) he
    | some y =>
      rw [ringI_at (i := i + 1) (x := (y : Int)) (by rw [cI_at, hn]; rfl)] at he
      exact behind_some bP bM f _ _ _ _ w a (I64_nat hbd) he (show ((y : Nat) : Int) ≠ -1 by omega)
  have HB := Lib.hid hB
  have t0 : ¬ (x : Int) < 0 := by omega
  clear a b hB hx hbd
  generalize ((l[i + 1]?).map fun (x : Nat) => (x : Int)).getD 0 = q at *
  generalize (l[i + 1]?).isSome = r at *
  go_enter Try.func16, Try.ntmps16
  go_wp2_with fail
  refine HB.out.mono ?_
  rintro e w1 ⟨rfl, hb⟩
  have HB1 := Lib.hid hb
  clear hb HB
  go_wp2
  go_ret2
  exact ⟨rfl, HB1.out⟩
theorem Newer_no (k : Int) (hk : I64 k) (hx : ∀ x : Nat, x ∈ l → (x : Int) ≠ k) : Calls Try.prog 16 #[.pointer (some ⟨bP, 0, none⟩), .int .i64 k] w fun e w' => e = .returned (.tuple #[.int .i64 0, .bool false]) ∧ Below w.heap.size w w' := by
  by_cases h0 : k < 0
  · go_enter Try.func16, Try.ntmps16
    go_wp2
    go_ret2
    exact ⟨rfl, Below.refl _ _⟩
  · obtain ⟨f, a, b⟩ := h
    have HB := Lib.hid (behind_none bP bM f _ k w a hk (b.no (by omega) (fun hm => by
      obtain ⟨x, rfl⟩ := Int.eq_ofNat_of_zero_le (Int.not_lt.1 h0)
      exact hx x (cI_mem.1 hm) rfl)))
    clear a b hx hk
    go_enter Try.func16, Try.ntmps16
    go_wp2_with fail
    refine HB.out.mono ?_
    rintro e w1 ⟨rfl, hb⟩
    have HB1 := Lib.hid hb
    clear hb HB
    go_wp2
    go_ret2
    exact ⟨rfl, HB1.out⟩
end
end Go.Proofs.Ytjkejlnelkckgaa
