/- The contracts of the wheel's Mask, Len, find, has, Next and mark. -/
import Derived.Test.YtknehglahdkafaaDoorWheel0
import Derived.Handy
namespace Go.Proofs.YtknehglahdkafaaDoor
open Go.ChangeShapes Go.WideShapes Go.ChangeAt Go.RowKit
set_option linter.unusedVariables false

theorem Mask_any (bP bM : Nat) (s : WS) (w : World) (h : IsWh w bP bM s) :
    Calls Tryd.prog 11 #[.pointer (some ⟨bP, 0, none⟩)] w fun e w' => e = .returned (.int .u64 (s.mask : Int)) ∧ w = w' := by
  have p0 := h.p0
  clear h
  generalize s.mask = m at *
  go_enter Tryd.func11, Tryd.ntmps11
  go_wp2
  go_ret
  exact ⟨rfl, rfl⟩
theorem Mask_nil (w : World) : Calls Tryd.prog 11 #[.pointer none] w fun e w' => e = .returned (.int .u64 0) ∧ w = w' := by
  go_enter Tryd.func11, Tryd.ntmps11
  go_wp2
  go_ret
  exact ⟨rfl, rfl⟩
theorem Len_nil (w : World) : Calls Tryd.prog 13 #[.pointer none] w fun e w' => e = .returned (.int .i64 0) ∧ w = w' := by
  go_enter Tryd.func13, Tryd.ntmps13
  go_wp2
  go_ret
  exact ⟨rfl, rfl⟩
theorem Len_any (bP bM : Nat) (s : WS) (w : World) (h : IsWh w bP bM s) :
    Calls Tryd.prog 13 #[.pointer (some ⟨bP, 0, none⟩)] w fun e w' => e = .returned (.int .i64 (s.n : Int)) ∧ w = w' := by
  have pM := h.pM
  have HM := Lib.hid h.mp
  clear h
  go_enter Tryd.func13, Tryd.ntmps13
  go_wp2_with (at_len; refine wpList_mlen plE w rfl _ 49 56 rfl Tryd.underlying49 bM s.n s.pl rfl HM.out ?_)
  go_ret
  exact ⟨rfl, rfl⟩
/-- What find tells. -/
theorem find_any (bP bM : Nat) (s : WS) (k : Int) (pa pb pc : Int) (r : Bool) (w : World) (h : IsWh w bP bM s) (hk : I64 k) (hp : (s.pl k).getD (0, 0, 0) = (pa, pb, pc)) (hr : (s.pl k).isSome = r) :
    Calls Tryd.prog 29 #[.pointer (some ⟨bP, 0, none⟩), .int .i64 k] w fun e w' => e = .returned (.tuple #[.agg #[.int .i64 pa, .int .i64 pb, .int .i64 pc], .bool r]) ∧ Below w.heap.size w w' := by
  have pM := h.pM
  have HM := Lib.hid h.mp
  have hbP := h.hd.lt
  have HK := Lib.hid hk
  have HP := Lib.hid hp
  have HR := Lib.hid hr
  have HA := Lib.hid (show IMap plE (w.alloc (.cells #[.int .i64 0, .int .i64 0, .int .i64 0] 56)) bM s.pl s.n from h.mp.kept (F := fun _ => False) ((Kept.refl _ w).alloc _) id)
  clear h hk hp hr
  go_enter Tryd.func29, Tryd.ntmps29
  go_wp2_with (at_lookup; refine wpList_mlook_ok plE (w.alloc (.cells #[.int .i64 0, .int .i64 0, .int .i64 0] 56)) rfl _ _ 49 56 rfl Tryd.underlying49 (Tryd.zeroPl _) bM s.n s.pl rfl HA.out k rfl HK.out (pa, pb, pc) r HP.out HR.out (.agg #[.int .i64 pa, .int .i64 pb, .int .i64 pc]) rfl ?_)
  go_wp2
  go_returns
  exact ⟨rfl, ((Below.refl _ _).alloc (Nat.le_refl _) _).alloc (by simp) _⟩
theorem find_nil (k : Int) (w : World) :
    Calls Tryd.prog 29 #[.pointer none, .int .i64 k] w fun e w' => e = .returned (.tuple #[.agg #[.int .i64 0, .int .i64 0, .int .i64 0], .bool false]) ∧ Below w.heap.size w w' := by
  go_enter Tryd.func29, Tryd.ntmps29
  go_wp2
  go_returns
  exact ⟨rfl, (Below.refl _ _).alloc (Nat.le_refl _) _⟩
theorem bit_one (m i : Nat) (hi : i < 64) : bitAt [m] i = m.testBit i := by
  unfold bitAt
  rw [Nat.div_eq_of_lt hi, Nat.mod_eq_of_lt hi]
  rfl
theorem fld_one (m i : Nat) (hi : i < 64) : fld [m] i 1 = (m.testBit i).toNat := by
  have h1 := fld_lt [m] i 1
  have h2 := fld_bit [m] i 1 0
  rw [Nat.add_zero, bit_one m i hi] at h2
  generalize fld [m] i 1 = x at *
  have : x = 0 ∨ x = 1 := by omega
  rcases this with rfl | rfl
  · simp at h2; rw [h2]; rfl
  · simp at h2; rw [h2]; rfl
theorem has_in (bP bM i : Nat) (s : WS) (w : World) (h : IsWh w bP bM s) (hi : i < 64) :
    Calls Tryd.prog 31 #[.pointer (some ⟨bP, 0, none⟩), .int .i64 (i : Int)] w fun e w' => e = .returned (.bool (s.mask.testBit i)) ∧ Below w.heap.size w w' := by
  have HM := Lib.hid (Mask_any bP bM s w h)
  have HG := Lib.hid (Get_yes (some ⟨w.heap.size, 0, none⟩) 1 1 [s.mask] i 1 (w.alloc (.cells #[.int .u64 (s.mask : Int)] 34)) (by decide) (by decide) (words_one w s.mask h.ml) (by decide) (by omega))
  rw [fld_one _ _ hi] at HG
  clear h
  generalize s.mask = m at *
  generalize m.testBit i = r at *
  go_enter Tryd.func31, Tryd.ntmps31
  go_wp2_with fail
  refine HM.out.mono ?_
  rintro e w1 ⟨rfl, rfl⟩
  go_wp2_with fail
  refine HG.out.mono ?_
  rintro e w1 ⟨rfl, rfl⟩
  have hB := Lib.hid (show Below w.heap.size w (w.alloc (.cells #[.int .u64 (m : Int)] 34)) from (Below.refl _ _).alloc (Nat.le_refl _) _)
  cases r with
  | false =>
    go_wp2
    go_ret
    exact ⟨rfl, hB.out⟩
  | true =>
    go_wp2
    go_ret
    exact ⟨rfl, hB.out⟩
theorem has_out (bP bM : Nat) (k : Int) (s : WS) (w : World) (h : IsWh w bP bM s) (hi : ¬ (0 ≤ k ∧ k < 64)) :
    Calls Tryd.prog 31 #[.pointer (some ⟨bP, 0, none⟩), .int .i64 k] w fun e w' => e = .returned (.bool false) ∧ Below w.heap.size w w' := by
  have HM := Lib.hid (Mask_any bP bM s w h)
  have HG := Lib.hid (Get_no (some ⟨w.heap.size, 0, none⟩) 1 1 k 1 (w.alloc (.cells #[.int .u64 (s.mask : Int)] 34)) (by decide) (by unfold InField; omega))
  clear h hi
  generalize s.mask = m at *
  go_enter Tryd.func31, Tryd.ntmps31
  go_wp2_with fail
  refine HM.out.mono ?_
  rintro e w1 ⟨rfl, rfl⟩
  go_wp2_with fail
  refine HG.out.mono ?_
  rintro e w1 ⟨rfl, rfl⟩
  go_wp2
  go_ret
  exact ⟨rfl, (Below.refl _ _).alloc (Nat.le_refl _) _⟩
theorem has_nil (k : Int) (w : World) :
    Calls Tryd.prog 31 #[.pointer none, .int .i64 k] w fun e w' => e = .returned (.bool false) ∧ Below w.heap.size w w' := by
  by_cases hi : 0 ≤ k ∧ k < 64
  · obtain ⟨i, rfl⟩ := Int.eq_ofNat_of_zero_le hi.1
    have HG := Lib.hid (Get_yes (some ⟨w.heap.size, 0, none⟩) 1 1 [0] i 1 (w.alloc (.cells #[.int .u64 ((0 : Nat) : Int)] 34)) (by decide) (by decide) (words_one w 0 (by decide)) (by decide) (by omega))
    rw [fld_one _ _ (by omega), Nat.zero_testBit] at HG
    clear hi
    go_enter Tryd.func31, Tryd.ntmps31
    go_wp2_with fail
    refine (Mask_nil w).mono ?_
    rintro e w1 ⟨rfl, rfl⟩
    go_wp2_with fail
    refine HG.out.mono ?_
    rintro e w1 ⟨rfl, rfl⟩
    go_wp2
    go_ret
    exact ⟨rfl, (Below.refl _ _).alloc (Nat.le_refl _) _⟩
  · have HG := Lib.hid (Get_no (some ⟨w.heap.size, 0, none⟩) 1 1 k 1 (w.alloc (.cells #[.int .u64 0] 34)) (by decide) (by unfold InField; omega))
    clear hi
    go_enter Tryd.func31, Tryd.ntmps31
    go_wp2_with fail
    refine (Mask_nil w).mono ?_
    rintro e w1 ⟨rfl, rfl⟩
    go_wp2_with fail
    refine HG.out.mono ?_
    rintro e w1 ⟨rfl, rfl⟩
    go_wp2
    go_ret
    exact ⟨rfl, (Below.refl _ _).alloc (Nat.le_refl _) _⟩
/-- The first bit of a mask from f on. -/
theorem Next_wh (bP bM : Nat) (k : Int) (s : WS) (w : World) (h : IsWh w bP bM s) (ht : TabW w) (hk : I64 k) :
    Calls Tryd.prog 18 #[.pointer (some ⟨bP, 0, none⟩), .int .i64 k] w fun e w' => e = .returned (.tuple #[.int .i64 ((nextN [s.mask] k.toNat).1 : Nat), .bool (nextN [s.mask] k.toNat).2]) ∧ Below w.heap.size w w' := by
  have HM := Lib.hid (Mask_any bP bM s w h)
  have HG := Lib.hid (Next_any (some ⟨w.heap.size, 0, none⟩) 1 1 [s.mask] k (w.alloc (.cells #[.int .u64 (s.mask : Int)] 34)) (by decide) (by decide) (words_one w s.mask h.ml) (ht.below ((Below.refl _ _).alloc (Nat.le_refl _) _)) (by unfold I64 at hk; omega))
  clear h hk ht
  generalize nextN [s.mask] k.toNat = q at *
  generalize s.mask = m at *
  go_enter Tryd.func18, Tryd.ntmps18
  go_wp2_with fail
  refine HM.out.mono ?_
  rintro e w1 ⟨rfl, rfl⟩
  go_wp2_with fail
  refine HG.out.mono ?_
  rintro e w1 ⟨rfl, rfl⟩
  go_wp2
  go_ret2
  exact ⟨rfl, (Below.refl _ _).alloc (Nat.le_refl _) _⟩
theorem Next_wh_nil (k : Int) (w : World) (ht : TabW w) (hk : I64 k) :
    Calls Tryd.prog 18 #[.pointer none, .int .i64 k] w fun e w' => e = .returned (.tuple #[.int .i64 0, .bool false]) ∧ Below w.heap.size w w' := by
  have HG := Lib.hid (Next_any (some ⟨w.heap.size, 0, none⟩) 1 1 [0] k (w.alloc (.cells #[.int .u64 ((0 : Nat) : Int)] 34)) (by decide) (by decide) (words_one w 0 (by decide)) (ht.below ((Below.refl _ _).alloc (Nat.le_refl _) _)) (by unfold I64 at hk; omega))
  have e : nextN [0] k.toNat = (0, false) := nextFrom_no _ _ _ (fun j _ _ => by
    unfold bitAt
    rcases Nat.lt_or_ge (j / 64) 1 with h | h
    · rw [Nat.lt_one_iff.1 h]; simp
    · rw [List.getD_eq_getElem?_getD, List.getElem?_eq_none (by simpa using h)]; simp)
  rw [e] at HG
  clear hk ht
  go_enter Tryd.func18, Tryd.ntmps18
  go_wp2_with fail
  refine (Mask_nil w).mono ?_
  rintro e w1 ⟨rfl, rfl⟩
  go_wp2_with fail
  refine HG.out.mono ?_
  rintro e w1 ⟨rfl, rfl⟩
  go_wp2
  go_ret2
  exact ⟨rfl, (Below.refl _ _).alloc (Nat.le_refl _) _⟩
end Go.Proofs.YtknehglahdkafaaDoor
