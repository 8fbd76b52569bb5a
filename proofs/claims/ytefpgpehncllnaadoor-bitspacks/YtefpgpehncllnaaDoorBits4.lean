/- The contracts of bits.sum, words and Pack. -/
import Derived.Test.YtefpgpehncllnaaDoorBits3
import Derived.Deep.QuietTactic
import Derived.BigQuiet
import Derived.WalkSmall
namespace Go.Proofs.YtefpgpehncllnaaDoor
open Go.ChangeShapes Go.WideShapes Go.ChangeAt Go.RowKit
set_option linter.unusedVariables false

/-- The slice of ints reads as these numbers. -/
def Ints (w : World) (A : Option Addr) (len : Nat) (zs : List Int) : Prop :=
  zs.length = len ∧ (0 < len → ∃ b off, A = some ⟨b, off, none⟩ ∧ b < w.heap.size ∧ ∀ i, i < len → w.cell? ⟨b, off + i, none⟩ = some (.int .i64 (zs.getD i 0)))
theorem Ints.below {w w' : World} {A : Option Addr} {len : Nat} {ns : List Int} (h : Ints w A len ns) (hb : Below w.heap.size w w') : Ints w' A len ns := by
  obtain ⟨h1, h3⟩ := h
  refine ⟨h1, fun hl => ?_⟩
  obtain ⟨b, off, rfl, hlt, hc⟩ := h3 hl
  exact ⟨b, off, rfl, Nat.lt_of_lt_of_le hlt hb.size, fun i hi => (hb.cell (p := ⟨b, off + i, none⟩) hlt).trans (hc i hi)⟩
/-- Fields of these widths may be packed: they are the numbers ks. -/
def WOk (zs : List Int) (ks : List Nat) : Prop := zs.length ≤ 100 ∧ zs.length = ks.length ∧ ∀ i, i < zs.length → zs.getD i 0 = (ks.getD i 0 : Nat) ∧ ks.getD i 0 ≤ 64
/-- They may not. -/
def WBad (zs : List Int) : Prop := 100 < zs.length ∨ ∃ i, i < zs.length ∧ ¬ (0 ≤ zs.getD i 0 ∧ zs.getD i 0 ≤ 64) ∧ ∀ j, j < i → 0 ≤ zs.getD j 0 ∧ zs.getD j 0 ≤ 64
theorem w_ways (zs : List Int) : (∃ ks, WOk zs ks) ∨ WBad zs := by
  by_cases h : zs.length ≤ 100
  · by_cases h2 : ∀ i, i < zs.length → 0 ≤ zs.getD i 0 ∧ zs.getD i 0 ≤ 64
    · refine .inl ⟨zs.map Int.toNat, h, by simp, fun i hi => ?_⟩
      have h3 := h2 i hi
      have e : (zs.map Int.toNat).getD i 0 = (zs.getD i 0).toNat := by
        rw [List.getD_eq_getElem?_getD, List.getD_eq_getElem?_getD, List.getElem?_map, List.getElem?_eq_getElem hi]; rfl
      rw [e]; omega
    · refine .inr (.inr ?_)
      have key : ∀ n : Nat, (∀ j, j < n → j < zs.length → 0 ≤ zs.getD j 0 ∧ zs.getD j 0 ≤ 64) ∨ ∃ i, i < zs.length ∧ ¬ (0 ≤ zs.getD i 0 ∧ zs.getD i 0 ≤ 64) ∧ ∀ j, j < i → 0 ≤ zs.getD j 0 ∧ zs.getD j 0 ≤ 64 := by
        intro n
        induction n with
        | zero => exact .inl (fun j hj => by omega)
        | succ n ih =>
          rcases ih with ih | ih
          · by_cases hn : n < zs.length
            · by_cases hb : 0 ≤ zs.getD n 0 ∧ zs.getD n 0 ≤ 64
              · refine .inl fun j hj hl => ?_
                by_cases e : j = n
                · subst e; exact hb
                · exact ih j (by omega) hl
              · exact .inr ⟨n, hn, hb, fun j hj => ih j hj (by omega)⟩
            · exact .inl fun j hj hl => ih j (by omega) hl
          · exact .inr ih
      rcases key zs.length with hk | hk
      · exact absurd (fun i hi => hk i hi hi) h2
      · exact hk
  · exact .inr (.inl (by omega))

/-- How many bits the first j fields have. -/
def psum (ks : List Nat) : Nat → Nat
  | 0 => 0
  | j + 1 => psum ks j + ks.getD j 0
theorem psum_mono (ks : List Nat) {i j : Nat} (h : i ≤ j) : psum ks i ≤ psum ks j := by
  induction j with
  | zero => rw [show i = 0 by omega]; exact Nat.le_refl _
  | succ j ih =>
    by_cases e : i = j + 1
    · subst e; exact Nat.le_refl _
    · have := ih (by omega)
      simp only [psum]; omega
theorem psum_le {zs : List Int} {ks : List Nat} (h : WOk zs ks) (j : Nat) (hj : j ≤ zs.length) : psum ks j ≤ 64 * j := by
  induction j with
  | zero => exact Nat.le_refl _
  | succ j ih =>
    have h1 := ih (by omega)
    have h2 := (h.2.2 j (by omega)).2
    simp only [psum]; omega

theorem ret2 {k : IntKind} {a b : Int} {v : Value} (h : a = b) : Ending.returned (.tuple #[.int k a, v]) = .returned (.tuple #[.int k b, v]) := by rw [h]

theorem sum_yes (A : Option Addr) (len cap : Nat) (zs : List Int) (ks : List Nat) (w : World) (hc : len ≤ cap) (hw : Ints w A len zs) (hk : WOk zs ks) :
    Calls Tryd.prog 32 #[.slice A len cap] w fun e w' => e = .returned (.tuple #[.int .i64 (psum ks len : Nat), .bool true]) ∧ w = w' := by
  have hl : len ≤ 100 := by have := hk.1; have := hw.1; omega
  have HW := Lib.hid hw
  have HK := Lib.hid hk
  clear hw hk
  go_enter Tryd.func32, Tryd.ntmps32
  go_wp2
  go_loop [4, 12] (fun n i => ∃ j : Nat, j ≤ len ∧ i = .int .i64 j ∧ n = .int .i64 (psum ks j : Nat)) (fun _ i => len - (intOf i).toNat)
  case atStart => exact ⟨0, Nat.zero_le _, rfl, rfl⟩
  case round =>
    obtain ⟨j, hj, rfl, rfl⟩ := hrel
    have hb := psum_le HK.out j (by rw [HW.out.1]; exact hj)
    by_cases hlt : j < len
    · obtain ⟨h1, h3⟩ := HW.out
      obtain ⟨b, off, rfl, hbl, hcell⟩ := h3 (by omega)
      have c0 := hcell j hlt
      obtain ⟨e1, e2⟩ := HK.out.2.2 j (by omega)
      rw [e1] at c0
      have E := Lib.hid (show psum ks (j + 1) = psum ks j + ks.getD j 0 from rfl)
      generalize ks.getD j 0 = k at *
      clear hcell h3 h1 e1
      go_wp2_with (first | (go_at_call 36; refine (fits_yes _ _ (by omega)).mono ?_; rintro e w' ⟨rfl, rfl⟩))
      go_round
      case rel => exact ⟨j + 1, by omega, by go_num, val_int (by rw [E.out]; omega)⟩
      case measure => simp [intOf]; omega
    · go_wp2
      go_ret2
      exact ⟨ret2 (by rw [show j = len by omega]), rfl⟩
theorem sum_no (A : Option Addr) (len cap : Nat) (zs : List Int) (w : World) (hl : len ≤ 1000) (hc : len ≤ cap) (hw : Ints w A len zs) (hk : WBad zs) :
    Calls Tryd.prog 32 #[.slice A len cap] w fun e w' => e = .returned (.tuple #[.int .i64 0, .bool false]) ∧ w = w' := by
  have hzl := hw.1
  by_cases h100 : 100 < len
  · go_enter Tryd.func32, Tryd.ntmps32
    go_wp2
    go_ret2
    exact ⟨rfl, rfl⟩
  rcases hk with hk | ⟨m, hm1, hm2, hm3⟩
  · omega
  have HW := Lib.hid hw
  have H3 := Lib.hid hm3
  have H2 := Lib.hid hm2
  have HL := Lib.hid hzl
  have hml : m < len := by omega
  clear hw hm3 hm2 hzl hm1
  go_enter Tryd.func32, Tryd.ntmps32
  go_wp2
  go_loop [4, 12] (fun n i => ∃ (j : Nat) (t : Int), j ≤ m ∧ 0 ≤ t ∧ t ≤ 64 * j ∧ i = .int .i64 j ∧ n = .int .i64 t) (fun _ i => len - (intOf i).toNat)
  case atStart => exact ⟨0, 0, Nat.zero_le _, by omega, by omega, rfl, rfl⟩
  case round =>
    obtain ⟨j, t, hj, ht0, ht, rfl, rfl⟩ := hrel
    obtain ⟨h1, h3⟩ := HW.out
    obtain ⟨b, off, rfl, hbl, hcell⟩ := h3 (by omega)
    have c0 := hcell j (by omega)
    by_cases hlt : j < m
    · have e1 := H3.out j hlt
      generalize zs.getD j 0 = k at *
      clear hcell h3 h1
      obtain ⟨e2, e3⟩ := e1
      go_wp2_with (first | (go_at_call 36; refine (fits_yes _ _ (by omega)).mono ?_; rintro e w' ⟨rfl, rfl⟩))
      go_round
      case rel => exact ⟨j + 1, t + k, by omega, by omega, by omega, by go_num, rfl⟩
      case measure => simp [intOf]; omega
    · obtain rfl : j = m := by omega
      have e1 := H2.out
      generalize zs.getD j 0 = k at *
      clear hcell h3 h1
      go_wp2_with (first | (go_at_call 36; refine (fits_no _ _ e1).mono ?_; rintro e w' ⟨rfl, rfl⟩))
      go_ret2
      exact ⟨rfl, rfl⟩
theorem words_any (n : Nat) (w : World) (h : n ≤ 100000) :
    Calls Tryd.prog 33 #[.int .i64 n] w fun e w' => e = .returned (.int .i64 ((n + 63) / 64 : Nat)) ∧ w = w' := by
  go_enter Tryd.func33, Tryd.ntmps33
  go_wp2
  go_ret
  exact ⟨ret_int (by omega), rfl⟩

/-- What is packed of the first j values. -/
def packAt (m : Nat) (ks vs : List Nat) : Nat → List Nat
  | 0 => List.replicate m 0
  | j + 1 => setW (packAt m ks vs j) (psum ks j) (ks.getD j 0) (vs.getD j 0)
theorem packAt_len (m : Nat) (ks vs : List Nat) (j : Nat) : (packAt m ks vs j).length = m := by
  cases j with
  | zero => simp [packAt]
  | succ j =>
    induction j with
    | zero => simp [packAt, setW_len]
    | succ j ih => rw [packAt, setW_len]; exact ih
theorem packAt_all (m : Nat) (ks vs : List Nat) (j : Nat) : AllW (packAt m ks vs j) := by
  cases j with
  | zero => intro x hx; simp [packAt] at hx; omega
  | succ j => exact setW_all _ _ _ _
/-- All of the values have room in their fields. -/
def VOk (ks vs : List Nat) : Prop := ∀ i, i < ks.length → vs.getD i 0 < 2 ^ ks.getD i 0

theorem zero_row (m : Nat) : rowF .u64 (fun _ => 0) m = (List.replicate m (0 : Nat)).map fun (x : Nat) => Value.int .u64 (x : Int) := by
  unfold rowF
  rw [List.map_replicate]
  apply List.ext_getElem?
  intro i
  simp only [List.getElem?_map, List.getElem?_replicate]
  by_cases h : i < m <;> simp [h]
theorem run_makeU64 (k : Nat) (hk : k ≤ 100000) (u : World) : (Instr.makeSlice 22 (.int .i64 (k : Int)) (.int .i64 (k : Int))).run Tryd.prog u =
      .ok (.slice (some ⟨u.heap.size, 0, none⟩) k k) (u.alloc (.cells (rowF .u64 (fun _ => 0) k).toArray 24)) := by
  obtain ⟨i0, hi, hz0, hz1, hz2⟩ := info_parts Tryd.infoU64
  have h := run_make (P := Tryd.prog) u 22 24 i0 (.int .u64 0) Tryd.underlying22 hi hz0 .i64 .i64 (k : Int) (k : Int) (by omega) (Int.le_refl _) (by rw [hz2]; omega) (by omega)
  rw [← madeRow]
  simpa [hz1, Value.cells] using h
theorem own_zero (w : World) (m : Nat) : OwnW (w.alloc (.cells (rowF .u64 (fun _ => 0) m).toArray 24)) w.heap.size m (List.replicate m 0) := by
  refine ⟨_, Has.made _ _ _, by rw [rowF_len]; exact Nat.le_refl _, by simp, ?_, ?_⟩
  · intro x hx; simp at hx; omega
  · intro i hi
    rw [rowF_get _ _ _ _ hi, List.getD_eq_getElem?_getD, List.getElem?_replicate, if_pos hi]; rfl

theorem over_zero (v k : Nat) (hk : k ≤ 64) (hv : v < 18446744073709551616) : (bits BinOp.andNot IntKind.u64 (v : Int) (onesN k : Int) != 0) = !decide (v < 2 ^ k) := by
  rw [andNot_nat _ _ hv (onesN_lt hk)]
  have key : (v &&& (18446744073709551615 - onesN k) = 0) ↔ v < 2 ^ k := by
    constructor
    · intro h
      apply Nat.lt_pow_two_of_testBit
      intro i hi
      by_cases h64 : i < 64
      · have := andNot_bit v (onesN k) i (onesN_lt hk)
        rw [h] at this
        unfold onesN at this
        rw [Nat.testBit_two_pow_sub_one] at this
        simp at this
        cases hb : v.testBit i
        · rfl
        · have := this hb h64; omega
      · exact Nat.testBit_lt_two_pow (Nat.lt_of_lt_of_le hv (Nat.le_trans (Nat.le_refl (2 ^ 64)) (Nat.pow_le_pow_right (by decide) (by omega))))
    · intro h
      apply Nat.eq_of_testBit_eq
      intro i
      rw [andNot_bit v (onesN k) i (onesN_lt hk)]
      unfold onesN
      rw [Nat.testBit_two_pow_sub_one]
      by_cases hi : i < k
      · simp [hi]
      · rw [Nat.testBit_lt_two_pow (Nat.lt_of_lt_of_le h (Nat.pow_le_pow_right (by decide) (by omega)))]; simp
  by_cases h : v < 2 ^ k
  · have := key.2 h
    rw [this]; simp [h]
  · have : ¬ (v &&& (18446744073709551615 - onesN k)) = 0 := fun e => h (key.1 e)
    simp [h]; omega

theorem quiet_mine {P : Program} {f : FuncId} {args : Array Value} {w : World} {n : Nat} {v : Value}
    (h : Calls P f args (w.drewN n) fun e w' => e = .returned v ∧ w.drewN n = w') : Calls P f args (w.drewN n) fun e w'' => e = .returned v ∧ ∃ m, w'' = w.drewN m :=
  h.mono fun _ _ ⟨he, hm⟩ => ⟨he, n, hm.symm⟩

/-- What Pack tells, where it may. -/
theorem Pack_yes (A A2 : Option Addr) (len cap cap2 : Nat) (zs : List Int) (ks vs : List Nat) (w : World) (hc : len ≤ cap) (hc2 : len ≤ cap2) (hw : Ints w A len zs) (hv : Words w A2 len vs) (hk : WOk zs ks) (hok : VOk ks vs) :
    Calls Tryd.prog 20 #[.slice A len cap, .slice A2 len cap2] w (SetTold ((psum ks len + 63) / 64) (packAt ((psum ks len + 63) / 64) ks vs len) w) := by
  have hl : len ≤ 100 := by have := hk.1; have := hw.1; omega
  have hpl := psum_le hk len (by rw [hw.1]; exact Nat.le_refl _)
  have HW := Lib.hid hw
  have HV := Lib.hid hv
  have HK := Lib.hid hk
  have HO := Lib.hid hok
  have C := Lib.hid (sum_yes A len cap zs ks w hc hw hk)
  have hmk := run_makeU64 ((psum ks len + 63) / 64) (by omega)
  clear hw hv hk hok
  obtain ⟨T, hT⟩ : ∃ T, T = psum ks len := ⟨_, rfl⟩
  rw [← hT] at C hmk hpl ⊢
  have HTT := Lib.hid hT
  clear hT
  obtain ⟨m, hm⟩ : ∃ m, m = (T + 63) / 64 := ⟨_, rfl⟩
  have hm2 : T ≤ 64 * m := by omega
  have hm3 : m ≤ 200 := by omega
  rw [← hm] at hmk ⊢
  have CW := Lib.hid (words_any T w (by omega))
  rw [← hm] at CW
  clear hm
  go_enter Tryd.func20, Tryd.ntmps20
  go_wp2_with fail
  refine C.out.mono ?_; rintro e w' ⟨rfl, rfl⟩
  go_wp2_with fail
  refine CW.out.mono ?_; rintro e w' ⟨rfl, rfl⟩
  go_wp2_with fail
  go_loopw [9, 31] (fun p i wr => ∃ j : Nat, j ≤ len ∧ i = .int .i64 j ∧ p = .int .i64 (psum ks j : Nat) ∧ OwnW wr w.heap.size m (packAt m ks vs j) ∧ Below w.heap.size w wr) (fun _ i _ => len - (intOf i).toNat)
  case atStart => exact ⟨0, Nat.zero_le _, rfl, rfl, own_zero _ _, (Below.refl _ _).alloc (Nat.le_refl _) _⟩
  case round =>
    obtain ⟨j, hj, rfl, rfl, ho, hb⟩ := hrel
    have hpj := psum_le HK.out j (by rw [HW.out.1]; exact hj)
    have HB := Lib.hid hb
    have HOW := Lib.hid ho
    clear hb ho
    by_cases hlt : j < len
    · obtain ⟨h1, h3⟩ := HW.out.below HB.out
      obtain ⟨b, off, rfl, hbl, hcell⟩ := h3 (by omega)
      have c0 := hcell j hlt
      obtain ⟨e1, e2⟩ := HK.out.2.2 j (by omega)
      rw [e1] at c0
      obtain ⟨h4, h5, h6⟩ := HV.out.below HB.out
      obtain ⟨b2, off2, rfl, hbl2, hcell2⟩ := h6 (by omega)
      have c1 := hcell2 j hlt
      have hvl := h5.at_ j
      have hfit := HO.out j (by rw [← HK.out.2.1]; omega)
      have E := Lib.hid (show psum ks (j + 1) = psum ks j + ks.getD j 0 from rfl)
      have E2 := Lib.hid (show packAt m ks vs (j + 1) = setW (packAt m ks vs j) (psum ks j) (ks.getD j 0) (vs.getD j 0) from rfl)
      have hps : psum ks j + ks.getD j 0 ≤ 64 * m := by
        have := psum_mono ks (show j + 1 ≤ len by omega)
        have h7 := HTT.out
        simp only [psum] at this
        omega
      have ov := over_zero (vs.getD j 0) (ks.getD j 0) e2 hvl
      have ov2 : decide (vs.getD j 0 < 2 ^ ks.getD j 0) = true := by simpa using hfit
      rw [ov2] at ov
      generalize ks.getD j 0 = k at *
      generalize vs.getD j 0 = v at *
      have HVL := Lib.hid hvl
      clear hcell h3 h1 e1 hcell2 h6 h5 h4 hvl hfit ov2
      go_wp2_with fail
      go_quiet ((first | (go_at_call 34; exact quiet_mine (ones_any k _ e2))))
      go_wp2_with fail
      refine (write_any w.heap.size m m (packAt m ks vs j) (psum ks j) k v _ (by omega) (Nat.le_refl _) (by exact HOW.out) e2 hps HVL.out).mono ?_
      rintro e w2 ⟨rfl, ho2, hon⟩
      have R : Hid (OwnW w2 w.heap.size m (packAt m ks vs (j + 1)) ∧ Below w.heap.size w w2) := ⟨by rw [E2.out]; exact ho2, (below_drewN HB.out nq).trans (hon.below (Nat.le_refl _))⟩
      clear ho2 hon
      go_wp2
      go_roundw
      case rel => exact ⟨j + 1, by omega, by go_num, val_int (by rw [E.out]; omega), R.out.1, R.out.2⟩
      case measure => simp [intOf]; omega
    · have R : Hid (SetTold m (packAt m ks vs len) w (.returned (.tuple #[.slice (some ⟨w.heap.size, 0, none⟩) m m, .bool true])) wr) := by
        have hj' : j = len := by omega
        rw [← hj']
        exact ⟨_, m, rfl, ⟨Nat.le_refl _, packAt_len _ _ _ _, packAt_all _ _ _ _, .inr ⟨_, rfl, Nat.le_refl _, HOW.out⟩⟩, HB.out⟩
      go_wp2
      go_ret2
      exact R.out

/-- Nothing is told, and nothing that was there has changed. -/
def NoneTold (w : World) (e : Ending) (w' : World) : Prop := e = .returned (.tuple #[.slice none 0 0, .bool false]) ∧ Below w.heap.size w w'

theorem Pack_bad (A A2 : Option Addr) (len cap len2 cap2 : Nat) (zs : List Int) (w : World) (hl : len ≤ 1000) (hc : len ≤ cap) (hw : Ints w A len zs) (hk : WBad zs) :
    Calls Tryd.prog 20 #[.slice A len cap, .slice A2 len2 cap2] w (NoneTold w) := by
  have C := Lib.hid (sum_no A len cap zs w hl hc hw hk)
  go_enter Tryd.func20, Tryd.ntmps20
  go_wp2_with fail
  refine C.out.mono ?_; rintro e w' ⟨rfl, rfl⟩
  go_wp2
  go_ret2
  exact ⟨rfl, Below.refl _ _⟩
theorem Pack_len (A A2 : Option Addr) (len cap len2 cap2 : Nat) (zs : List Int) (ks : List Nat) (w : World) (hc : len ≤ cap) (hl2 : len2 ≤ 1000) (hw : Ints w A len zs) (hk : WOk zs ks) (hne : len2 ≠ len) :
    Calls Tryd.prog 20 #[.slice A len cap, .slice A2 len2 cap2] w (NoneTold w) := by
  have C := Lib.hid (sum_yes A len cap zs ks w hc hw hk)
  have t : ((len2 : Int) != (len : Int)) = true := by simp; omega
  clear hne
  go_enter Tryd.func20, Tryd.ntmps20
  go_wp2_with fail
  refine C.out.mono ?_; rintro e w' ⟨rfl, rfl⟩
  go_wp2
  go_ret2
  exact ⟨rfl, Below.refl _ _⟩
theorem Pack_over (A A2 : Option Addr) (len cap cap2 q : Nat) (zs : List Int) (ks vs : List Nat) (w : World) (hc : len ≤ cap) (hc2 : len ≤ cap2) (hw : Ints w A len zs) (hv : Words w A2 len vs) (hk : WOk zs ks)
    (hq : q < len) (hq1 : ¬ vs.getD q 0 < 2 ^ ks.getD q 0) (hq2 : ∀ j, j < q → vs.getD j 0 < 2 ^ ks.getD j 0) :
    Calls Tryd.prog 20 #[.slice A len cap, .slice A2 len cap2] w (NoneTold w) := by
  have hl : len ≤ 100 := by have := hk.1; have := hw.1; omega
  have hpl := psum_le hk len (by rw [hw.1]; exact Nat.le_refl _)
  have HW := Lib.hid hw
  have HV := Lib.hid hv
  have HK := Lib.hid hk
  have HO := Lib.hid hq2
  have HQ := Lib.hid hq1
  have C := Lib.hid (sum_yes A len cap zs ks w hc hw hk)
  have hmk := run_makeU64 ((psum ks len + 63) / 64) (by omega)
  clear hw hv hk hq1 hq2
  obtain ⟨T, hT⟩ : ∃ T, T = psum ks len := ⟨_, rfl⟩
  rw [← hT] at C hmk hpl
  have HTT := Lib.hid hT
  clear hT
  obtain ⟨m, hm⟩ : ∃ m, m = (T + 63) / 64 := ⟨_, rfl⟩
  have hm2 : T ≤ 64 * m := by omega
  have hm3 : m ≤ 200 := by omega
  rw [← hm] at hmk
  have CW := Lib.hid (words_any T w (by omega))
  rw [← hm] at CW
  clear hm
  go_enter Tryd.func20, Tryd.ntmps20
  go_wp2_with fail
  refine C.out.mono ?_; rintro e w' ⟨rfl, rfl⟩
  go_wp2_with fail
  refine CW.out.mono ?_; rintro e w' ⟨rfl, rfl⟩
  go_wp2_with fail
  go_loopw [9, 31] (fun p i wr => ∃ j : Nat, j ≤ q ∧ i = .int .i64 j ∧ p = .int .i64 (psum ks j : Nat) ∧ OwnW wr w.heap.size m (packAt m ks vs j) ∧ Below w.heap.size w wr) (fun _ i _ => len - (intOf i).toNat)
  case atStart => exact ⟨0, Nat.zero_le _, rfl, rfl, own_zero _ _, (Below.refl _ _).alloc (Nat.le_refl _) _⟩
  case round =>
    obtain ⟨j, hj, rfl, rfl, ho, hb⟩ := hrel
    have hpj := psum_le HK.out j (by rw [HW.out.1]; omega)
    have HB := Lib.hid hb
    have HOW := Lib.hid ho
    clear hb ho
    have hlt : j < len := by omega
    obtain ⟨h1, h3⟩ := HW.out.below HB.out
    obtain ⟨b, off, rfl, hbl, hcell⟩ := h3 (by omega)
    have c0 := hcell j hlt
    obtain ⟨e1, e2⟩ := HK.out.2.2 j (by omega)
    rw [e1] at c0
    obtain ⟨h4, h5, h6⟩ := HV.out.below HB.out
    obtain ⟨b2, off2, rfl, hbl2, hcell2⟩ := h6 (by omega)
    have c1 := hcell2 j hlt
    have hvl := h5.at_ j
    have ov := over_zero (vs.getD j 0) (ks.getD j 0) e2 hvl
    by_cases hjq : j < q
    · have hfit := HO.out j hjq
      have E := Lib.hid (show psum ks (j + 1) = psum ks j + ks.getD j 0 from rfl)
      have E2 := Lib.hid (show packAt m ks vs (j + 1) = setW (packAt m ks vs j) (psum ks j) (ks.getD j 0) (vs.getD j 0) from rfl)
      have hps : psum ks j + ks.getD j 0 ≤ 64 * m := by
        have := psum_mono ks (show j + 1 ≤ len by omega)
        have h7 := HTT.out
        simp only [psum] at this
        omega
      have ov2 : decide (vs.getD j 0 < 2 ^ ks.getD j 0) = true := by simpa using hfit
      rw [ov2] at ov
      generalize ks.getD j 0 = k at *
      generalize vs.getD j 0 = v at *
      have HVL := Lib.hid hvl
      clear hcell h3 h1 e1 hcell2 h6 h5 h4 hvl hfit ov2
      go_wp2_with fail
      go_quiet ((first | (go_at_call 34; exact quiet_mine (ones_any k _ e2))))
      go_wp2_with fail
      refine (write_any w.heap.size m m (packAt m ks vs j) (psum ks j) k v _ (by omega) (Nat.le_refl _) (by exact HOW.out) e2 hps HVL.out).mono ?_
      rintro e w2 ⟨rfl, ho2, hon⟩
      have R : Hid (OwnW w2 w.heap.size m (packAt m ks vs (j + 1)) ∧ Below w.heap.size w w2) := ⟨by rw [E2.out]; exact ho2, (below_drewN HB.out nq).trans (hon.below (Nat.le_refl _))⟩
      clear ho2 hon
      go_wp2
      go_roundw
      case rel => exact ⟨j + 1, by omega, by go_num, val_int (by rw [E.out]; omega), R.out.1, R.out.2⟩
      case measure => simp [intOf]; omega
    · obtain rfl : j = q := by omega
      have ov2 : decide (vs.getD j 0 < 2 ^ ks.getD j 0) = false := by simpa using HQ.out
      rw [ov2] at ov
      generalize ks.getD j 0 = k at *
      generalize vs.getD j 0 = v at *
      have HVL := Lib.hid hvl
      clear hcell h3 h1 e1 hcell2 h6 h5 h4 hvl ov2
      go_wp2_with fail
      go_quiet ((first | (go_at_call 34; exact quiet_mine (ones_any k _ e2))))
      go_wp2
      go_ret2
      exact ⟨rfl, below_drewN HB.out nq⟩
end Go.Proofs.YtefpgpehncllnaaDoor
