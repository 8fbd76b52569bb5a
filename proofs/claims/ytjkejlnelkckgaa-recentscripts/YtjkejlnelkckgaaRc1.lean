/- The contracts of Recent's behind, join, Drop and Touch, over its links. -/
import Derived.Test.YtjkejlnelkckgaaRc0
namespace Go.Proofs.Ytjkejlnelkckgaa
open Go.ChangeShapes Go.WideShapes Go.ChangeAt Go.RowKit
set_option linter.unusedVariables false

theorem box_below {w : World} (o : Obj) : Below w.heap.size w (w.alloc o) := (Below.refl _ _).alloc (Nat.le_refl _) _
/-- What stands behind k. -/
theorem behind_none (bP bM : Nat) (f : Lk) (n : Nat) (k : Int) (w : World) (h : IsRc w bP bM f n) (hk : I64 k) (hf : f k = none) :
    Calls Try.prog 24 #[.pointer (some ⟨bP, 0, none⟩), .int .i64 k] w fun e w' => e = .returned (.tuple #[.int .i64 0, .bool false]) ∧ Below w.heap.size w w' := by
  have HM := Lib.hid (made_any bP bM f n w h)
  have HW := Lib.hid h
  have HK := Lib.hid hk
  have HF := Lib.hid (show (f k).getD lkE.zero = (0, 0) by rw [hf]; rfl)
  have HS := Lib.hid (show (f k).isSome = false by rw [hf]; rfl)
  have pM := h.pM
  have hbP := h.hd.lt
  clear h hf hk
  go_enter Try.func24, Try.ntmps24
  go_wp2_with fail
  refine HM.out.mono ?_
  rintro e w1 ⟨rfl, rfl⟩
  have HA := Lib.hid (HW.out.below (box_below (.cells #[.int .i64 0, .int .i64 0] 46)))
  go_wp2_with (at_lookup; first | (refine wpList_mlook_ok lkE w rfl _ _ 47 46 rfl Try.underlying47 (Try.zeroLk _) bM n f rfl HW.out.mp k rfl HK.out (0, 0) false HF.out HS.out (.agg #[.int .i64 0, .int .i64 0]) rfl ?_) | (refine wpList_mlook_ok lkE (w.alloc (.cells #[.int .i64 0, .int .i64 0] 46)) rfl _ _ 47 46 rfl Try.underlying47 (Try.zeroLk _) bM n f rfl HA.out.mp k rfl HK.out (0, 0) false HF.out HS.out (.agg #[.int .i64 0, .int .i64 0]) rfl ?_))
  go_wp2
  go_ret2
  exact ⟨rfl, box_below _⟩
theorem behind_end (bP bM : Nat) (f : Lk) (n : Nat) (k p : Int) (w : World) (h : IsRc w bP bM f n) (hk : I64 k) (hf : f k = some (p, -1)) :
    Calls Try.prog 24 #[.pointer (some ⟨bP, 0, none⟩), .int .i64 k] w fun e w' => e = .returned (.tuple #[.int .i64 0, .bool false]) ∧ Below w.heap.size w w' := by
  have HM := Lib.hid (made_any bP bM f n w h)
  have HW := Lib.hid h
  have HK := Lib.hid hk
  have HF := Lib.hid (show (f k).getD lkE.zero = (p, -1) by rw [hf]; rfl)
  have HS := Lib.hid (show (f k).isSome = true by rw [hf]; rfl)
  have pM := h.pM
  have hbP := h.hd.lt
  clear h hf hk
  go_enter Try.func24, Try.ntmps24
  go_wp2_with fail
  refine HM.out.mono ?_
  rintro e w1 ⟨rfl, rfl⟩
  have HA := Lib.hid (HW.out.below (box_below (.cells #[.int .i64 0, .int .i64 0] 46)))
  go_wp2_with (at_lookup; first | (refine wpList_mlook_ok lkE w rfl _ _ 47 46 rfl Try.underlying47 (Try.zeroLk _) bM n f rfl HW.out.mp k rfl HK.out (p, -1) true HF.out HS.out (.agg #[.int .i64 p, .int .i64 (-1)]) rfl ?_) | (refine wpList_mlook_ok lkE (w.alloc (.cells #[.int .i64 0, .int .i64 0] 46)) rfl _ _ 47 46 rfl Try.underlying47 (Try.zeroLk _) bM n f rfl HA.out.mp k rfl HK.out (p, -1) true HF.out HS.out (.agg #[.int .i64 p, .int .i64 (-1)]) rfl ?_))
  go_wp2
  go_ret2
  exact ⟨rfl, box_below _⟩
theorem behind_some (bP bM : Nat) (f : Lk) (n : Nat) (k p q : Int) (w : World) (h : IsRc w bP bM f n) (hk : I64 k) (hf : f k = some (p, q)) (hq : q ≠ -1) :
    Calls Try.prog 24 #[.pointer (some ⟨bP, 0, none⟩), .int .i64 k] w fun e w' => e = .returned (.tuple #[.int .i64 q, .bool true]) ∧ Below w.heap.size w w' := by
  have HM := Lib.hid (made_any bP bM f n w h)
  have HW := Lib.hid h
  have HK := Lib.hid hk
  have HF := Lib.hid (show (f k).getD lkE.zero = (p, q) by rw [hf]; rfl)
  have HS := Lib.hid (show (f k).isSome = true by rw [hf]; rfl)
  have t1 : (q == -1) = false := by simp [hq]
  have pM := h.pM
  have hbP := h.hd.lt
  clear h hf hk hq
  go_enter Try.func24, Try.ntmps24
  go_wp2_with fail
  refine HM.out.mono ?_
  rintro e w1 ⟨rfl, rfl⟩
  have HA := Lib.hid (HW.out.below (box_below (.cells #[.int .i64 0, .int .i64 0] 46)))
  go_wp2_with (at_lookup; first | (refine wpList_mlook_ok lkE w rfl _ _ 47 46 rfl Try.underlying47 (Try.zeroLk _) bM n f rfl HW.out.mp k rfl HK.out (p, q) true HF.out HS.out (.agg #[.int .i64 p, .int .i64 q]) rfl ?_) | (refine wpList_mlook_ok lkE (w.alloc (.cells #[.int .i64 0, .int .i64 0] 46)) rfl _ _ 47 46 rfl Try.underlying47 (Try.zeroLk _) bM n f rfl HA.out.mp k rfl HK.out (p, q) true HF.out HS.out (.agg #[.int .i64 p, .int .i64 q]) rfl ?_))
  go_wp2
  go_ret2
  exact ⟨rfl, box_below _⟩
def nJ (f : Lk) (a : Int) (n : Nat) : Nat := if (f a).isSome then n else n + 1
theorem nJ_some {f : Lk} {a : Int} (n : Nat) (h : (f a).isSome = true) : nJ f a n = n := by unfold nJ; rw [if_pos h]
theorem nJ_le (f : Lk) (a : Int) (n : Nat) : nJ f a n ≤ n + 1 := by unfold nJ; split <;> omega
end Go.Proofs.Ytjkejlnelkckgaa
