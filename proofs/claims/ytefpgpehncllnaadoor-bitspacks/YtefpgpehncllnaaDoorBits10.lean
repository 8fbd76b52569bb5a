/- The contracts of the document's own size and Pack. -/
import Derived.Test.YtefpgpehncllnaaDoorBits9
import Derived.Deep.RegionHeld3
namespace Go.Proofs.YtefpgpehncllnaaDoor
open Go.ChangeShapes Go.WideShapes Go.ChangeAt Go.RowKit
set_option linter.unusedVariables false

theorem rsize_yes (A : Option Addr) (len cap : Nat) (zs : List Int) (ks : List Nat) (w : World) (hc : len ≤ cap) (hw : Ints w A len zs) (hk : WOk zs ks) :
    Calls Tryd.prog 35 #[.slice A len cap] w fun e w' => e = .returned (.int .i64 (psum ks len : Nat)) ∧ w = w' := by
  have hl : len ≤ 100 := by have := hk.1; have := hw.1; omega
  have HW := Lib.hid hw
  have HK := Lib.hid hk
  clear hw hk
  go_enter Tryd.func35, Tryd.ntmps35
  go_wp2
  go_loop [3, 4] (fun n i => ∃ j : Nat, j ≤ len ∧ i = .int .i64 j ∧ n = .int .i64 (psum ks j : Nat)) (fun _ i => len - (intOf i).toNat)
  case atStart => exact ⟨0, Nat.zero_le _, rfl, rfl⟩
  case round =>
    obtain ⟨j, hj, rfl, rfl⟩ := hrel
    have hb := psum_le HK.out j (by rw [HW.out.1]; exact hj)
    by_cases hlt : j < len
    · obtain ⟨h1, h3⟩ := HW.out
      obtain ⟨b, off, rfl, hbl, hcell⟩ := h3 (by omega)
      have c0 := hcell j hlt
      obtain ⟨e1, e2⟩ := HK.out.2.2 j (by omega)
      rw [e1] at c0
      have E := Lib.hid (show psum ks (j + 1) = psum ks j + ks.getD j 0 from rfl)
      generalize ks.getD j 0 = k at *
      clear hcell h3 h1 e1
      go_wp2
      go_round
      case rel => exact ⟨j + 1, by omega, by go_num, val_int (by rw [E.out]; omega)⟩
      case measure => simp [intOf]; omega
    · go_wp2
      go_ret
      exact ⟨ret_int (by rw [show j = len by omega]), rfl⟩
theorem rsize_no (A : Option Addr) (len cap : Nat) (zs : List Int) (w : World) (hl : len ≤ 1000) (hc : len ≤ cap) (hw : Ints w A len zs) (hk : WBad zs) :
    Calls Tryd.prog 35 #[.slice A len cap] w fun e w' => e = .returned (.int .i64 (-1)) ∧ w = w' := by
  have hzl := hw.1
  by_cases h100 : 100 < len
  · go_enter Tryd.func35, Tryd.ntmps35
    go_wp2
    go_ret
    exact ⟨rfl, rfl⟩
  rcases hk with hk | ⟨m, hm1, hm2, hm3⟩
  · omega
  have HW := Lib.hid hw
  have H3 := Lib.hid hm3
  have H2 := Lib.hid hm2
  have HL := Lib.hid hzl
  have hml : m < len := by omega
  clear hw hm3 hm2 hzl hm1
  go_enter Tryd.func35, Tryd.ntmps35
  go_wp2
  go_loop [3, 4] (fun n i => ∃ (j : Nat) (t : Int), j ≤ m ∧ 0 ≤ t ∧ t ≤ 64 * j ∧ i = .int .i64 j ∧ n = .int .i64 t) (fun _ i => len - (intOf i).toNat)
  case atStart => exact ⟨0, 0, Nat.zero_le _, by omega, by omega, rfl, rfl⟩
  case round =>
    obtain ⟨j, t, hj, ht0, ht, rfl, rfl⟩ := hrel
    obtain ⟨h1, h3⟩ := HW.out
    obtain ⟨b, off, rfl, hbl, hcell⟩ := h3 (by omega)
    have c0 := hcell j (by omega)
    by_cases hlt : j < m
    · have e1 := H3.out j hlt
      generalize zs.getD j 0 = k at *
      clear hcell h3 h1
      obtain ⟨e2, e3⟩ := e1
      go_wp2
      go_round
      case rel => exact ⟨j + 1, t + k, by omega, by omega, by omega, by go_num, rfl⟩
      case measure => simp [intOf]; omega
    · obtain rfl : j = m := by omega
      have e1 := H2.out
      generalize zs.getD j 0 = k at *
      have e1' : k < 0 ∨ (¬ k < 0 ∧ 64 < k) := by omega
      clear hcell h3 h1 e1
      rcases e1' with e1 | ⟨e1, e2⟩
      · go_wp2
        go_ret
        exact ⟨rfl, rfl⟩
      · go_wp2
        go_ret
        exact ⟨rfl, rfl⟩

/-- What the document's Set tells of words that are not nil. -/
def SetSome (len : Nat) (ns : List Nat) (w : World) (e : Ending) (w' : World) : Prop :=
  ∃ g cap, e = .returned (.tuple #[.slice (some ⟨g, 0, none⟩) len cap, .bool true]) ∧ w.heap.size ≤ g ∧ len ≤ cap ∧ OwnW w' g len ns ∧ Below w.heap.size w w'
theorem rSet_some (ad : Addr) (len cap : Nat) (ns : List Nat) (p k n : Nat) (w : World) (hl : len ≤ 1000) (hw : Words w (some ad) len ns) (hk : k ≤ 64) (hp : p + k ≤ 64 * len) (hn : n < 18446744073709551616) :
    Calls Tryd.prog 14 #[.slice (some ad) len cap, .int .i64 p, .int .i64 k, .int .u64 n] w (SetSome len (setW ns p k n) w) := by
  obtain ⟨i0, hi, hz0, hz1, hz2⟩ := info_parts Tryd.infoU64
  have HI := Lib.hid (And.intro hi (And.intro hz0 (And.intro hz1 hz2)))
  have hown : (w.alloc (Obj.cells #[] 24)).ownsRow w.heap.size 24 1 (.slice (some ⟨w.heap.size, 0, none⟩) 0 0) 0 [] := World.ownsRow_lit w #[] 0 (Nat.le_refl _) (by unfold maxLen; omega) rfl
  have HO := Lib.hid hown
  have HW := Lib.hid (hw.below ((Below.refl _ _).alloc (Nat.le_refl _) (Obj.cells #[] 24)))
  have HN := Lib.hid hn
  have hlen := Lib.hid hw.1
  have hall := Lib.hid hw.2.1
  clear hi hz0 hz1 hz2 hown hw hn
  go_enter Tryd.func14, Tryd.ntmps14
  go_wp2_with (first | (go_at_call 26; refine (rthere_yes _ _ _ _ _ _ hl (by unfold InField; omega)).mono ?_; rintro e w' ⟨rfl, rfl⟩) | (at_builtin; refine wpList_append_own _ rfl _ _ 22 rfl w.heap.size 24 i0 (.int .u64 0) 1 8 Tryd.underlying22 HI.out.1 HI.out.2.1 HI.out.2.2.1 HI.out.2.2.2 rfl (by decide) _ 0 [] rfl HO.out ad len cap (ns.map fun (x : Nat) => Value.int .u64 (x : Int)) rfl ?c1 ?c2 ?c3 ?c4 ?c5 ?c6 ?_))
  case c1 => simpa using HW.out.1
  case c2 =>
    intro j u hj
    have hjl : j < len := by
      have := (List.getElem?_eq_some_iff.1 hj).1
      have h1 := HW.out.1
      simp at this
      omega
    obtain ⟨b, off, e, hb, hc⟩ := HW.out.2.2 (by omega)
    injection e with e
    subst e
    have h2 := hc j hjl
    rw [List.getElem?_map] at hj
    have hj2 : j < ns.length := by rw [HW.out.1]; exact hjl
    rw [List.getElem?_eq_getElem hj2] at hj
    rw [List.getD_eq_getElem?_getD, List.getElem?_eq_getElem hj2] at h2
    have e2 : (⟨b, off, none⟩ : Addr).add j = ⟨b, off + j, none⟩ := by unfold Addr.add; split <;> simp_all
    rw [e2, h2]
    exact hj
  case c3 => intro u hu; simp at hu; obtain ⟨x, _, rfl⟩ := hu; rfl
  case c4 => unfold maxLen; omega
  case c5 => omega
  case c6 => simp
  intro v' w1 hown' hgrow hnil
  obtain ⟨g, c', rfl, hcc, hbg, ho⟩ := own_of_row hown' HW.out.2.1 hnil
  have hbel : Below w.heap.size w w1 := ((Below.refl _ _).alloc (Nat.le_refl _) (Obj.cells #[] 24)).grown hgrow (by simp) (fun k hk => by simp [Value.ownBlock] at hk; omega)
  have O1 := Lib.hid ho
  have B1 := Lib.hid hbel
  clear hown' hgrow hnil ho hbel HW HO HI
  go_wp2
  go_loopw [11] (fun i wr => ∃ j : Nat, j ≤ k ∧ i = .int .i64 j ∧ OwnW wr g len (setW ns p j n) ∧ Below w.heap.size w wr) (fun i _ => k - (intOf i).toNat)
  case atStart => exact ⟨0, Nat.zero_le _, rfl, by rw [set_none _ _ _ hall.out]; exact O1.out, B1.out⟩
  case round =>
    obtain ⟨j, hj, rfl, ho, hb⟩ := hrel
    by_cases hlt : j < k
    · have c0 := ho.cell (i := (p + j) / 64) (by omega)
      have l0 := ho.loose ((p + j) / 64)
      have hal := ho.all.at_ ((p + j) / 64)
      have HOW := Lib.hid ho
      have HB := Lib.hid hb
      have E := Lib.hid (fun b hb => set_bit_word ns p j n b hall.out hb (by rw [hlen.out]; omega))
      have hbit := bit_of n j HN.out
      have x1 := clear_int ((setW ns p j n).getD ((p + j) / 64) 0) ((p + j) % 64) hal (by omega)
      have x2 := lay_int ((setW ns p j n).getD ((p + j) / 64) 0) ((p + j) % 64) hal (by omega)
      have HAL := Lib.hid hal
      clear ho hb hal
      cases hbv : n.testBit j with
      | true =>
        rw [hbv] at hbit
        have S := Lib.hid (((HOW.out.store (i := (p + j) / 64) (v := put1 ((setW ns p j n).getD ((p + j) / 64) 0) 1 0 ((p + j) % 64)) (by omega) (put1_lt _ _ _ _ HAL.out))).store (i := (p + j) / 64) (v := put1 ((setW ns p j n).getD ((p + j) / 64) 0) 1 1 ((p + j) % 64)) (by omega) (put1_lt _ _ _ _ HAL.out))
        rw [List.set_set, E.out 1 (by rw [hbv]; rfl)] at S
        generalize (setW ns p j n).getD ((p + j) / 64) 0 = a at *
        clear hbv
        go_wp2
        go_roundw
        case rel => exact ⟨j + 1, by omega, by go_num, S.out, (HB.out.setCell (p := ⟨g, (p + j) / 64, none⟩) hbg _).setCell (p := ⟨g, (p + j) / 64, none⟩) hbg _⟩
        case measure => simp [intOf]; omega
      | false =>
        rw [hbv] at hbit
        have S := Lib.hid (HOW.out.store (i := (p + j) / 64) (v := put1 ((setW ns p j n).getD ((p + j) / 64) 0) 1 0 ((p + j) % 64)) (by omega) (put1_lt _ _ _ _ HAL.out))
        rw [E.out 0 (by rw [hbv]; rfl)] at S
        generalize (setW ns p j n).getD ((p + j) / 64) 0 = a at *
        clear hbv
        go_wp2
        go_roundw
        case rel => exact ⟨j + 1, by omega, by go_num, S.out, HB.out.setCell (p := ⟨g, (p + j) / 64, none⟩) hbg _⟩
        case measure => simp [intOf]; omega
    · have R : Hid (SetSome len (setW ns p k n) w (.returned (.tuple #[.slice (some ⟨g, 0, none⟩) len c', .bool true])) wr) := by
        have hj' : j = k := by omega
        rw [hj'] at ho
        exact ⟨g, c', rfl, hbg, hcc, ho, hb⟩
      clear ho hb
      go_wp2
      go_ret2
      exact R.out

theorem shr_over (v k : Nat) : ((v : Int) / 2 ^ k != 0) = !decide (v < 2 ^ k) := by
  rw [shr_nat, Nat.shiftRight_eq_div_pow]
  have hp := Nat.two_pow_pos k
  by_cases h : v < 2 ^ k
  · rw [Nat.div_eq_of_lt h]; simp [h]
  · have : 0 < v / 2 ^ k := Nat.div_pos (by omega) hp
    rw [decide_eq_false h]
    exact bne_iff_ne.2 (by omega)

theorem rPack_bad (A A2 : Option Addr) (len cap len2 cap2 : Nat) (zs : List Int) (w : World) (hl : len ≤ 1000) (hc : len ≤ cap) (hw : Ints w A len zs) (hk : WBad zs) :
    Calls Tryd.prog 21 #[.slice A len cap, .slice A2 len2 cap2] w (NoneTold w) := by
  have C := Lib.hid (rsize_no A len cap zs w hl hc hw hk)
  go_enter Tryd.func21, Tryd.ntmps21
  go_wp2_with fail
  refine C.out.mono ?_; rintro e w' ⟨rfl, rfl⟩
  go_wp2
  go_ret2
  exact ⟨rfl, Below.refl _ _⟩
theorem rPack_len (A A2 : Option Addr) (len cap len2 cap2 : Nat) (zs : List Int) (ks : List Nat) (w : World) (hc : len ≤ cap) (hl2 : len2 ≤ 1000) (hw : Ints w A len zs) (hk : WOk zs ks) (hne : len2 ≠ len) :
    Calls Tryd.prog 21 #[.slice A len cap, .slice A2 len2 cap2] w (NoneTold w) := by
  have C := Lib.hid (rsize_yes A len cap zs ks w hc hw hk)
  have t : ((len2 : Int) != (len : Int)) = true := by simp; omega
  clear hne
  go_enter Tryd.func21, Tryd.ntmps21
  go_wp2_with fail
  refine C.out.mono ?_; rintro e w' ⟨rfl, rfl⟩
  go_wp2
  go_ret2
  exact ⟨rfl, Below.refl _ _⟩

/-- Till field q all values have room. -/
def OkTill (ks vs : List Nat) (q : Nat) : Prop := ∀ j, j < q → vs.getD j 0 < 2 ^ ks.getD j 0
/-- What the document's Pack tells, where all values till field q have room, and q is the end, or the value of q has no room. -/
def PackTold (m len q : Nat) (ks vs : List Nat) (w : World) (e : Ending) (w' : World) : Prop :=
  (q = len ∧ SetTold m (packAt m ks vs len) w e w') ∨ (q < len ∧ NoneTold w e w')

theorem rPack_core (A A2 : Option Addr) (len cap cap2 q : Nat) (zs : List Int) (ks vs : List Nat) (w : World) (hc : len ≤ cap) (hc2 : len ≤ cap2) (hw : Ints w A len zs) (hv : Words w A2 len vs) (hk : WOk zs ks)
    (hq : q ≤ len) (hq1 : q < len → ¬ vs.getD q 0 < 2 ^ ks.getD q 0) (hq2 : OkTill ks vs q) :
    Calls Tryd.prog 21 #[.slice A len cap, .slice A2 len cap2] w (PackTold ((psum ks len + 63) / 64) len q ks vs w) := by
  have hl : len ≤ 100 := by have := hk.1; have := hw.1; omega
  have hpl := psum_le hk len (by rw [hw.1]; exact Nat.le_refl _)
  have HW := Lib.hid hw
  have HV := Lib.hid hv
  have HK := Lib.hid hk
  have HO := Lib.hid hq2
  have HQ := Lib.hid hq1
  have C := Lib.hid (rsize_yes A len cap zs ks w hc hw hk)
  have hmk := run_makeU64 ((psum ks len + 63) / 64) (by omega)
  clear hw hv hk hq1 hq2
  obtain ⟨T, hT⟩ : ∃ T, T = psum ks len := ⟨_, rfl⟩
  rw [← hT] at C hmk hpl ⊢
  have HTT := Lib.hid hT
  clear hT
  obtain ⟨m, hm⟩ : ∃ m, m = (T + 63) / 64 := ⟨_, rfl⟩
  have hm2 : T ≤ 64 * m := by omega
  have hm3 : m ≤ 200 := by omega
  have hm4 : ((T : Int) + 63) / 64 = (m : Int) := by omega
  rw [← hm] at hmk ⊢
  clear hm
  go_enter Tryd.func21, Tryd.ntmps21
  go_wp2_with fail
  refine C.out.mono ?_; rintro e w' ⟨rfl, rfl⟩
  go_wp2_with fail
  clear hm4
  go_loopw [7, 8, 9] (fun sv p i wr => ∃ j g c : Nat, j ≤ q ∧ i = .int .i64 j ∧ p = .int .i64 (psum ks j : Nat) ∧ sv = .slice (some ⟨g, 0, none⟩) m c ∧ m ≤ c ∧ w.heap.size ≤ g ∧ OwnW wr g m (packAt m ks vs j) ∧ Below w.heap.size w wr) (fun _ _ i _ => len - (intOf i).toNat)
  case atStart => exact ⟨0, w.heap.size, m, Nat.zero_le _, rfl, rfl, rfl, Nat.le_refl _, Nat.le_refl _, own_zero _ _, (Below.refl _ _).alloc (Nat.le_refl _) _⟩
  case round =>
    obtain ⟨j, g, c, hj, rfl, rfl, rfl, hmc, hg, ho, hb⟩ := hrel
    have hpj := psum_le HK.out j (by rw [HW.out.1]; omega)
    have HB := Lib.hid hb
    have HOW := Lib.hid ho
    clear hb ho
    by_cases hlt : j < len
    · obtain ⟨h1, h3⟩ := HW.out.below HB.out
      obtain ⟨b, off, rfl, hbl, hcell⟩ := h3 (by omega)
      have c0 := hcell j hlt
      obtain ⟨e1, e2⟩ := HK.out.2.2 j (by omega)
      rw [e1] at c0
      obtain ⟨h4, h5, h6⟩ := HV.out.below HB.out
      obtain ⟨b2, off2, rfl, hbl2, hcell2⟩ := h6 (by omega)
      have c1 := hcell2 j hlt
      have hvl := h5.at_ j
      have ov := shr_over (vs.getD j 0) (ks.getD j 0)
      by_cases hjq : j < q
      · have hfit := HO.out j hjq
        have E := Lib.hid (show psum ks (j + 1) = psum ks j + ks.getD j 0 from rfl)
        have E2 := Lib.hid (show packAt m ks vs (j + 1) = setW (packAt m ks vs j) (psum ks j) (ks.getD j 0) (vs.getD j 0) from rfl)
        have hps : psum ks j + ks.getD j 0 ≤ 64 * m := by
          have := psum_mono ks (show j + 1 ≤ len by omega)
          have h7 := HTT.out
          simp only [psum] at this
          omega
        have ov2 : decide (vs.getD j 0 < 2 ^ ks.getD j 0) = true := by simpa using hfit
        rw [ov2] at ov
        generalize ks.getD j 0 = k at *
        generalize vs.getD j 0 = v at *
        have HVL := Lib.hid hvl
        clear hcell h3 h1 e1 hcell2 h6 h5 h4 hvl hfit ov2
        by_cases hk64 : k < 64
        · have t64 : decide ((k : Int) < 64) = true := by simp; omega
          go_wp2_with fail
          go_quiet (fail)
          go_wp2_with fail
          have c0' : (wr.drewN nq).cell? ⟨b, off + j, none⟩ = some (.int .i64 k) := c0
          have c1' : (wr.drewN nq).cell? ⟨b2, off2 + j, none⟩ = some (.int .u64 v) := c1
          have HOW' : Hid (OwnW (wr.drewN nq) g m (packAt m ks vs j)) := HOW.out
          have HB' : Hid (Below w.heap.size w (wr.drewN nq)) := below_drewN HB.out nq
          have hbl' : b < (wr.drewN nq).heap.size := hbl
          have hbl2' : b2 < (wr.drewN nq).heap.size := hbl2
          clear c0 c1 HOW HB hbl hbl2
          generalize wr.drewN nq = w1 at c0' c1' HOW' HB' hbl' hbl2' ⊢
          go_region_held3 (fun w' => w'.cell? ⟨b, off + j, none⟩ = some (.int .i64 k) ∧ w'.cell? ⟨b2, off2 + j, none⟩ = some (.int .u64 v)) (first | exact ⟨c0', c1'⟩ | exact ⟨d0, d1⟩ | go_keep)
            (first
              | (go_at_call 14; refine (rSet_some ⟨g, 0, none⟩ m c (packAt m ks vs j) (psum ks j) k v _ (by omega) (by exact HOW'.out.words) e2 hps HVL.out).mono ?_; rintro e w2 ⟨g2, c2, rfl, hg2, hmc2, ho2, hb2⟩; have d0 : w2.cell? ⟨b, off + j, none⟩ = some (.int .i64 k) := (hb2.cell (p := ⟨b, off + j, none⟩) (by simpa using hbl')).trans (by simpa using c0'); have d1 : w2.cell? ⟨b2, off2 + j, none⟩ = some (.int .u64 v) := (hb2.cell (p := ⟨b2, off2 + j, none⟩) (by simpa using hbl2')).trans (by simpa using c1')))
          have hsz : w1.drew.heap.size = w1.heap.size := rfl
          have hwz := HB'.out.size
          have R : Hid (OwnW w2 g2 m (packAt m ks vs (j + 1)) ∧ w.heap.size ≤ g2 ∧ Below w.heap.size w w2) := ⟨by rw [E2.out]; exact ho2, by omega, HB'.out.drew.trans (hb2.mono (by omega))⟩
          clear ho2 hb2 hg2 hsz hwz c0' c1' d1
          go_wp2
          go_roundw
          case rel => exact ⟨j + 1, g2, c2, by omega, by go_num, val_int (by rw [E.out]; omega), rfl, hmc2, R.out.2.1, R.out.1, R.out.2.2⟩
          case measure => simp [intOf]; omega
        · have t64 : decide ((k : Int) < 64) = false := by simp; omega
          go_wp2_with fail
          go_quiet (fail)
          go_wp2_with fail
          have c0' : (wr.drewN nq).cell? ⟨b, off + j, none⟩ = some (.int .i64 k) := c0
          have c1' : (wr.drewN nq).cell? ⟨b2, off2 + j, none⟩ = some (.int .u64 v) := c1
          have HOW' : Hid (OwnW (wr.drewN nq) g m (packAt m ks vs j)) := HOW.out
          have HB' : Hid (Below w.heap.size w (wr.drewN nq)) := below_drewN HB.out nq
          have hbl' : b < (wr.drewN nq).heap.size := hbl
          have hbl2' : b2 < (wr.drewN nq).heap.size := hbl2
          clear c0 c1 HOW HB hbl hbl2
          generalize wr.drewN nq = w1 at c0' c1' HOW' HB' hbl' hbl2' ⊢
          go_region_held3 (fun w' => w'.cell? ⟨b, off + j, none⟩ = some (.int .i64 k) ∧ w'.cell? ⟨b2, off2 + j, none⟩ = some (.int .u64 v)) (first | exact ⟨c0', c1'⟩ | exact ⟨d0, d1⟩ | go_keep)
            (first
              | (go_at_call 14; refine (rSet_some ⟨g, 0, none⟩ m c (packAt m ks vs j) (psum ks j) k v _ (by omega) (by exact HOW'.out.words) e2 hps HVL.out).mono ?_; rintro e w2 ⟨g2, c2, rfl, hg2, hmc2, ho2, hb2⟩; have d0 : w2.cell? ⟨b, off + j, none⟩ = some (.int .i64 k) := (hb2.cell (p := ⟨b, off + j, none⟩) (by simpa using hbl')).trans (by simpa using c0'); have d1 : w2.cell? ⟨b2, off2 + j, none⟩ = some (.int .u64 v) := (hb2.cell (p := ⟨b2, off2 + j, none⟩) (by simpa using hbl2')).trans (by simpa using c1')))
          have hsz : w1.drew.heap.size = w1.heap.size := rfl
          have hwz := HB'.out.size
          have R : Hid (OwnW w2 g2 m (packAt m ks vs (j + 1)) ∧ w.heap.size ≤ g2 ∧ Below w.heap.size w w2) := ⟨by rw [E2.out]; exact ho2, by omega, HB'.out.drew.trans (hb2.mono (by omega))⟩
          clear ho2 hb2 hg2 hsz hwz c0' c1' d1
          go_wp2
          go_roundw
          case rel => exact ⟨j + 1, g2, c2, by omega, by go_num, val_int (by rw [E.out]; omega), rfl, hmc2, R.out.2.1, R.out.1, R.out.2.2⟩
          case measure => simp [intOf]; omega
      · obtain rfl : j = q := by omega
        have hfit := HQ.out hlt
        have hk64 : ks.getD j 0 < 64 := by
          rcases Nat.lt_or_ge (ks.getD j 0) 64 with h | h
          · exact h
          · exact absurd (Nat.lt_of_lt_of_le hvl (Nat.le_trans (Nat.le_refl (2 ^ 64)) (Nat.pow_le_pow_right (by decide) h))) hfit
        have ov2 : decide (vs.getD j 0 < 2 ^ ks.getD j 0) = false := by simpa using hfit
        rw [ov2] at ov
        generalize ks.getD j 0 = k at *
        generalize vs.getD j 0 = v at *
        have HVL := Lib.hid hvl
        clear hcell h3 h1 e1 hcell2 h6 h5 h4 hvl hfit ov2
        have t64 : decide ((k : Int) < 64) = true := by simp; omega
        go_wp2_with fail
        go_quiet (fail)
        go_wp2
        go_ret2
        exact .inr ⟨hlt, rfl, below_drewN HB.out nq⟩
    · have R : Hid (PackTold m len q ks vs w (.returned (.tuple #[.slice (some ⟨g, 0, none⟩) m c, .bool true])) wr) := by
        have hj' : j = len := by omega
        have hO := HOW.out
        rw [hj'] at hO
        exact .inl ⟨by omega, _, c, rfl, ⟨hmc, packAt_len _ _ _ _, packAt_all _ _ _ _, .inr ⟨g, rfl, hg, hO⟩⟩, HB.out⟩
      go_wp2
      go_ret2
      exact R.out

theorem rPack_yes (A A2 : Option Addr) (len cap cap2 : Nat) (zs : List Int) (ks vs : List Nat) (w : World) (hc : len ≤ cap) (hc2 : len ≤ cap2) (hw : Ints w A len zs) (hv : Words w A2 len vs) (hk : WOk zs ks) (hok : VOk ks vs) :
    Calls Tryd.prog 21 #[.slice A len cap, .slice A2 len cap2] w (SetTold ((psum ks len + 63) / 64) (packAt ((psum ks len + 63) / 64) ks vs len) w) :=
  (rPack_core A A2 len cap cap2 len zs ks vs w hc hc2 hw hv hk (Nat.le_refl _) (fun h => absurd h (by omega)) (fun j hj => hok j (by rw [← hk.2.1, hw.1]; exact hj))).mono fun e w' h => by
    rcases h with ⟨_, h⟩ | ⟨h, _⟩
    · exact h
    · omega
theorem rPack_over (A A2 : Option Addr) (len cap cap2 q : Nat) (zs : List Int) (ks vs : List Nat) (w : World) (hc : len ≤ cap) (hc2 : len ≤ cap2) (hw : Ints w A len zs) (hv : Words w A2 len vs) (hk : WOk zs ks)
    (hq : q < len) (hq1 : ¬ vs.getD q 0 < 2 ^ ks.getD q 0) (hq2 : ∀ j, j < q → vs.getD j 0 < 2 ^ ks.getD j 0) :
    Calls Tryd.prog 21 #[.slice A len cap, .slice A2 len cap2] w (NoneTold w) :=
  (rPack_core A A2 len cap cap2 q zs ks vs w hc hc2 hw hv hk (by omega) (fun _ => hq1) hq2).mono fun e w' h => by
    rcases h with ⟨h, _⟩ | ⟨_, h⟩
    · omega
    · exact h
end Go.Proofs.YtefpgpehncllnaaDoor
