/- The contract of bits.Unpack. -/
import Derived.Test.YtefpgpehncllnaaDoorBits4
namespace Go.Proofs.YtefpgpehncllnaaDoor
open Go.ChangeShapes Go.WideShapes Go.ChangeAt Go.RowKit
set_option linter.unusedVariables false

/-- The values of the first j fields, and 0 for the others. -/
def upTo (len : Nat) (ks ns : List Nat) (j : Nat) : List Nat := (List.range len).map fun i => if i < j then fld ns (psum ks i) (ks.getD i 0) else 0
theorem upTo_len (len : Nat) (ks ns : List Nat) (j : Nat) : (upTo len ks ns j).length = len := by simp [upTo]
theorem upTo_get (len : Nat) (ks ns : List Nat) (j i : Nat) (h : i < len) : (upTo len ks ns j).getD i 0 = if i < j then fld ns (psum ks i) (ks.getD i 0) else 0 := by
  rw [List.getD_eq_getElem?_getD]; simp [upTo, h]
theorem upTo_zero (len : Nat) (ks ns : List Nat) : upTo len ks ns 0 = List.replicate len 0 := by
  apply List.ext_getElem?
  intro i
  simp only [upTo, List.getElem?_map, List.getElem?_replicate]
  by_cases h : i < len <;> simp [h]
theorem upTo_step (len : Nat) (ks ns : List Nat) (j : Nat) (h : j < len) : (upTo len ks ns j).set j (fld ns (psum ks j) (ks.getD j 0)) = upTo len ks ns (j + 1) := by
  apply List.ext_getElem?
  intro i
  rw [List.getElem?_set, upTo_len]
  by_cases hi : i < len
  · simp only [upTo, List.getElem?_map, List.getElem?_range, hi]
    by_cases e : j = i
    · subst e; simp [h]
    · have e2 : i < j + 1 ↔ i < j := by omega
      simp [e, e2]
  · by_cases e : j = i
    · omega
    · simp [upTo, hi, e]
theorem upTo_all (len : Nat) (ks ns : List Nat) (j : Nat) (h : ∀ i, i < len → ks.getD i 0 ≤ 64) : AllW (upTo len ks ns j) := by
  intro x hx
  simp only [upTo, List.mem_map, List.mem_range] at hx
  obtain ⟨i, hi, rfl⟩ := hx
  split
  · exact fld_u (h i hi)
  · decide

theorem Unpack_yes (A A2 : Option Addr) (len cap len2 cap2 : Nat) (zs : List Int) (ks ns : List Nat) (w : World) (hc : len ≤ cap) (hc2 : len2 ≤ cap2) (hw : Ints w A len zs) (hv : Words w A2 len2 ns) (hk : WOk zs ks)
    (ht : TabW w) (hl2 : len2 = (psum ks len + 63) / 64) (hno : nextN ns (psum ks len) = (0, false)) :
    Calls Tryd.prog 22 #[.slice A len cap, .slice A2 len2 cap2] w (SetTold len (upTo len ks ns len) w) := by
  have hl : len ≤ 100 := by have := hk.1; have := hw.1; omega
  have hpl := psum_le hk len (by rw [hw.1]; exact Nat.le_refl _)
  have HW := Lib.hid hw
  have HV := Lib.hid hv
  have HK := Lib.hid hk
  have C := Lib.hid (sum_yes A len cap zs ks w hc hw hk)
  have CN := Lib.hid (Next_nat A2 len2 cap2 ns (psum ks len) w (by omega) hc2 hv ht (by omega))
  rw [hno] at CN
  have hmk := run_makeU64 len (by omega)
  clear hw hv hk ht hno
  obtain ⟨T, hT⟩ : ∃ T, T = psum ks len := ⟨_, rfl⟩
  rw [← hT] at C hpl hl2 CN
  have HTT := Lib.hid hT
  clear hT
  have CW := Lib.hid (words_any T w (by omega))
  rw [← hl2] at CW
  have hm2 : T ≤ 64 * len2 := by omega
  have hm3 : len2 ≤ 200 := by omega
  clear hl2
  go_enter Tryd.func22, Tryd.ntmps22
  go_wp2_with fail
  refine C.out.mono ?_; rintro e w' ⟨rfl, rfl⟩
  go_wp2_with fail
  refine CW.out.mono ?_; rintro e w' ⟨rfl, rfl⟩
  go_wp2_with fail
  refine CN.out.mono ?_; rintro e w' ⟨rfl, rfl⟩
  go_wp2_with fail
  go_loopw [11, 40] (fun p i wr => ∃ j : Nat, j ≤ len ∧ i = .int .i64 j ∧ p = .int .i64 (psum ks j : Nat) ∧ OwnW wr w.heap.size len (upTo len ks ns j) ∧ Below w.heap.size w wr) (fun _ i _ => len - (intOf i).toNat)
  case atStart => exact ⟨0, Nat.zero_le _, rfl, rfl, by rw [upTo_zero]; exact own_zero _ _, (Below.refl _ _).alloc (Nat.le_refl _) _⟩
  case round =>
    obtain ⟨j, hj, rfl, rfl, ho, hb⟩ := hrel
    have hpj := psum_le HK.out j (by rw [HW.out.1]; exact hj)
    by_cases hlt : j < len
    · have c2 := ho.cell hlt
      have l2 := ho.loose j
      have HB := Lib.hid hb
      have HOW := Lib.hid ho
      clear hb ho
      obtain ⟨h1, h3⟩ := HW.out.below HB.out
      obtain ⟨b, off, rfl, hbl, hcell⟩ := h3 (by omega)
      have c0 := hcell j hlt
      obtain ⟨e1, e2⟩ := HK.out.2.2 j (by omega)
      rw [e1] at c0
      have HV2 := Lib.hid (HV.out.below HB.out)
      have E := Lib.hid (show psum ks (j + 1) = psum ks j + ks.getD j 0 from rfl)
      have hps : psum ks j + ks.getD j 0 ≤ 64 * len2 := by
        have := psum_mono ks (show j + 1 ≤ len by omega)
        have h7 := HTT.out
        simp only [psum] at this
        omega
      have E2 := Lib.hid (upTo_step len ks ns j hlt)
      have HF := Lib.hid (fld_u (ns := ns) (p := psum ks j) e2)
      have R := Lib.hid (And.intro (HOW.out.store (i := j) (v := fld ns (psum ks j) (ks.getD j 0)) hlt HF.out) (HB.out.setCell (p := ⟨w.heap.size, j, none⟩) (Nat.le_refl _) (.int .u64 (fld ns (psum ks j) (ks.getD j 0) : Nat))))
      rw [E2.out] at R
      generalize ks.getD j 0 = k at *
      clear hcell h3 h1 e1
      go_wp2_with fail
      refine (read_any A2 len2 cap2 ns (psum ks j) k _ (by omega) hc2 HV2.out e2 hps).mono ?_
      rintro e w2 ⟨rfl, rfl⟩
      go_wp2
      go_roundw
      case rel => exact ⟨j + 1, by omega, by go_num, val_int (by rw [E.out]; omega), R.out.1, R.out.2⟩
      case measure => simp [intOf]; omega
    · have R : Hid (SetTold len (upTo len ks ns len) w (.returned (.tuple #[.slice (some ⟨w.heap.size, 0, none⟩) len len, .bool true])) wr) := by
        have hj' : j = len := by omega
        rw [hj'] at ho
        exact ⟨_, len, rfl, ⟨Nat.le_refl _, upTo_len _ _ _ _, ho.all, .inr ⟨_, rfl, Nat.le_refl _, ho⟩⟩, hb⟩
      clear ho hb
      go_wp2
      go_ret2
      exact R.out

theorem Unpack_bad (A A2 : Option Addr) (len cap len2 cap2 : Nat) (zs : List Int) (w : World) (hl : len ≤ 1000) (hc : len ≤ cap) (hw : Ints w A len zs) (hk : WBad zs) :
    Calls Tryd.prog 22 #[.slice A len cap, .slice A2 len2 cap2] w (NoneTold w) := by
  have C := Lib.hid (sum_no A len cap zs w hl hc hw hk)
  go_enter Tryd.func22, Tryd.ntmps22
  go_wp2_with fail
  refine C.out.mono ?_; rintro e w' ⟨rfl, rfl⟩
  go_wp2
  go_ret2
  exact ⟨rfl, Below.refl _ _⟩
theorem Unpack_len (A A2 : Option Addr) (len cap len2 cap2 : Nat) (zs : List Int) (ks : List Nat) (w : World) (hc : len ≤ cap) (hl2 : len2 ≤ 1000) (hw : Ints w A len zs) (hk : WOk zs ks) (hne : len2 ≠ (psum ks len + 63) / 64) :
    Calls Tryd.prog 22 #[.slice A len cap, .slice A2 len2 cap2] w (NoneTold w) := by
  have hl : len ≤ 100 := by have := hk.1; have := hw.1; omega
  have hpl := psum_le hk len (by rw [hw.1]; exact Nat.le_refl _)
  have C := Lib.hid (sum_yes A len cap zs ks w hc hw hk)
  have CW := Lib.hid (words_any (psum ks len) w (by omega))
  obtain ⟨m, hm⟩ : ∃ m, m = (psum ks len + 63) / 64 := ⟨_, rfl⟩
  rw [← hm] at hne CW
  have t : ((len2 : Int) != (m : Int)) = true := by simp; omega
  clear hne hm
  go_enter Tryd.func22, Tryd.ntmps22
  go_wp2_with fail
  refine C.out.mono ?_; rintro e w' ⟨rfl, rfl⟩
  go_wp2_with fail
  refine CW.out.mono ?_; rintro e w' ⟨rfl, rfl⟩
  go_wp2
  go_ret2
  exact ⟨rfl, Below.refl _ _⟩
theorem Unpack_more (A A2 : Option Addr) (len cap len2 cap2 x : Nat) (zs : List Int) (ks ns : List Nat) (w : World) (hc : len ≤ cap) (hc2 : len2 ≤ cap2) (hw : Ints w A len zs) (hv : Words w A2 len2 ns) (hk : WOk zs ks)
    (ht : TabW w) (hl2 : len2 = (psum ks len + 63) / 64) (hno : nextN ns (psum ks len) = (x, true)) :
    Calls Tryd.prog 22 #[.slice A len cap, .slice A2 len2 cap2] w (NoneTold w) := by
  have hl : len ≤ 100 := by have := hk.1; have := hw.1; omega
  have hpl := psum_le hk len (by rw [hw.1]; exact Nat.le_refl _)
  have C := Lib.hid (sum_yes A len cap zs ks w hc hw hk)
  have CN := Lib.hid (Next_nat A2 len2 cap2 ns (psum ks len) w (by omega) hc2 hv ht (by omega))
  rw [hno] at CN
  have CW := Lib.hid (words_any (psum ks len) w (by omega))
  rw [← hl2] at CW
  clear hl2 hno
  go_enter Tryd.func22, Tryd.ntmps22
  go_wp2_with fail
  refine C.out.mono ?_; rintro e w' ⟨rfl, rfl⟩
  go_wp2_with fail
  refine CW.out.mono ?_; rintro e w' ⟨rfl, rfl⟩
  go_wp2_with fail
  refine CN.out.mono ?_; rintro e w' ⟨rfl, rfl⟩
  go_wp2
  go_ret2
  exact ⟨rfl, Below.refl _ _⟩
end Go.Proofs.YtefpgpehncllnaaDoor
