/- The contract of the document's own Unpack; what both Packs and both Unpacks tell. -/
import Derived.Test.YtefpgpehncllnaaDoorBits10
namespace Go.Proofs.YtefpgpehncllnaaDoor
open Go.ChangeShapes Go.WideShapes Go.ChangeAt Go.RowKit
set_option linter.unusedVariables false

/-- The values of the first j fields. -/
def upPre (ks ns : List Nat) (j : Nat) : List Nat := (List.range j).map fun i => fld ns (psum ks i) (ks.getD i 0)
theorem upPre_len (ks ns : List Nat) (j : Nat) : (upPre ks ns j).length = j := by simp [upPre]
theorem upPre_step (ks ns : List Nat) (j : Nat) : upPre ks ns (j + 1) = upPre ks ns j ++ [fld ns (psum ks j) (ks.getD j 0)] := by
  simp [upPre, List.range_succ]
theorem upPre_all (ks ns : List Nat) (j : Nat) (h : ∀ i, i < j → ks.getD i 0 ≤ 64) : AllW (upPre ks ns j) := by
  intro x hx
  simp only [upPre, List.mem_map, List.mem_range] at hx
  obtain ⟨i, hi, rfl⟩ := hx
  exact fld_u (h i hi)
theorem upPre_eq (ks ns : List Nat) (len : Nat) : upTo len ks ns len = upPre ks ns len := by
  unfold upTo upPre
  apply List.map_congr_left
  intro i hi
  rw [if_pos (by simpa using hi)]

/-- What the document's Unpack tells. -/
def UnpTold (len T : Nat) (ks ns : List Nat) (w : World) (e : Ending) (w' : World) : Prop :=
  (nextN ns T = (0, false) ∧ Tells len (upTo len ks ns len) true w e w') ∨ (¬ nextN ns T = (0, false) ∧ NoneTold w e w')

theorem words_row {w : World} {base : Nat} {v : Value} {n : Nat} {ns : List Nat} (h : w.ownsRow base 24 1 v n (ns.map fun (x : Nat) => Value.int .u64 (x : Int))) (ha : AllW ns) :
    ∃ A cap, v = .slice A n cap ∧ n ≤ cap ∧ Words w A n ns := by
  by_cases hv : v = .slice none 0 0
  · have h1 := h.1
    rcases h.2 with ⟨_, h2⟩ | ⟨g, cap, cur, h2, _⟩
    · subst h2
      obtain rfl : ns = [] := List.eq_nil_of_length_eq_zero (by simpa using h1)
      exact ⟨none, 0, hv, Nat.le_refl _, no_words _⟩
    · rw [hv] at h2; cases h2
  · obtain ⟨g, cap, rfl, hc, _, ho⟩ := own_of_row h ha hv
    exact ⟨_, cap, rfl, hc, ho.words⟩

set_option maxHeartbeats 1000000 in
theorem rUnpack_core (A A2 : Option Addr) (len cap len2 cap2 : Nat) (zs : List Int) (ks ns : List Nat) (w : World) (hc : len ≤ cap) (hc2 : len2 ≤ cap2) (hw : Ints w A len zs) (hv : Words w A2 len2 ns) (hk : WOk zs ks)
    (hl2 : len2 = (psum ks len + 63) / 64) :
    Calls Tryd.prog 23 #[.slice A len cap, .slice A2 len2 cap2] w (UnpTold len (psum ks len) ks ns w) := by
  have hl : len ≤ 100 := by have := hk.1; have := hw.1; omega
  have hpl := psum_le hk len (by rw [hw.1]; exact Nat.le_refl _)
  have HW := Lib.hid hw
  have HV := Lib.hid hv
  have HK := Lib.hid hk
  have C := Lib.hid (rsize_yes A len cap zs ks w hc hw hk)
  obtain ⟨i0, hi, hz0, hz1, hz2⟩ := info_parts Tryd.infoU64
  have HI := Lib.hid (And.intro hi (And.intro hz0 (And.intro hz1 hz2)))
  clear hw hv hk hi hz0 hz1 hz2
  obtain ⟨T, hT⟩ : ∃ T, T = psum ks len := ⟨_, rfl⟩
  rw [← hT] at C hpl hl2 ⊢
  have HTT := Lib.hid hT
  clear hT
  have t1 : ((len2 : Int) != ((T : Int) + 63) / 64) = false := by simp; omega
  have hm2 : T ≤ 64 * len2 := by omega
  have hm3 : len2 ≤ 200 := by omega
  clear hl2
  go_enter Tryd.func23, Tryd.ntmps23
  go_wp2_with fail
  refine C.out.mono ?_; rintro e w' ⟨rfl, rfl⟩
  go_wp2_with fail
  clear t1
  go_loopw [7, 8, 9] (fun sv p i wr => ∃ j : Nat, j ≤ len ∧ i = .int .i64 j ∧ p = .int .i64 (psum ks j : Nat) ∧ wr.ownsRow w.heap.size 24 1 sv j ((upPre ks ns j).map fun (x : Nat) => Value.int .u64 (x : Int)) ∧ Below w.heap.size w wr) (fun _ _ i _ => len - (intOf i).toNat)
  case atStart => exact ⟨0, Nat.zero_le _, rfl, rfl, World.ownsRow_nil _ _ _ _, Below.refl _ _⟩
  case round =>
    obtain ⟨j, hj, rfl, rfl, ho, hb⟩ := hrel
    have hpj := psum_le HK.out j (by rw [HW.out.1]; exact hj)
    have HB := Lib.hid hb
    have HOW := Lib.hid ho
    clear hb ho
    by_cases hlt : j < len
    · obtain ⟨h1, h3⟩ := HW.out
      obtain ⟨b, off, rfl, hbl, hcell⟩ := h3 (by omega)
      have c00 := hcell j hlt
      have c0 := (HB.out.cell (p := ⟨b, off + j, none⟩) hbl).trans c00
      obtain ⟨e1, e2⟩ := HK.out.2.2 j (by omega)
      rw [e1] at c0 c00
      have C00 := Lib.hid c00
      clear c00
      have HV2 := Lib.hid (HV.out.below HB.out)
      have E := Lib.hid (show psum ks (j + 1) = psum ks j + ks.getD j 0 from rfl)
      have E2 := Lib.hid (upPre_step ks ns j)
      have hps : psum ks j + ks.getD j 0 ≤ 64 * len2 := by
        have := psum_mono ks (show j + 1 ≤ len by omega)
        have h7 := HTT.out
        simp only [psum] at this
        omega
      generalize ks.getD j 0 = k at *
      clear hcell h3 h1 e1
      have G := Lib.hid (rGet_yes A2 len2 cap2 ns (psum ks j) k wr (by omega) hc2 HV2.out e2 hps)
      generalize fld ns (psum ks j) k = v at *
      go_wp2_with (first
        | (go_at_call 12; refine G.out.mono ?_; rintro e w2 ⟨rfl, rfl⟩)
        | (at_builtin; refine wpList_append_own _ rfl _ _ 22 rfl w.heap.size 24 i0 (.int .u64 0) 1 8 Tryd.underlying22 HI.out.1 HI.out.2.1 HI.out.2.2.1 HI.out.2.2.2 rfl (by decide) _ j _ rfl (HOW.out.alloc _) ⟨wr.heap.size, 0, none⟩ 1 1 [.int .u64 (v : Int)] rfl rfl ?c2 ?c3 ?c4 ?c5 ?c6 ?_))
      case c2 =>
        intro i u hi
        match i, hi with
        | 0, hi => simp at hi; subst hi; simp [Addr.add]
      case c3 => intro u hu; simp at hu; subst hu; rfl
      case c4 => unfold maxLen; omega
      case c5 => omega
      case c6 => have := HB.out.size; simp; omega
      intro v' w1 hown' hgrow hnil
      have hbel : Below w.heap.size w w1 := (HB.out.alloc HB.out.size (Obj.cells #[Value.int IntKind.u64 (v : Int)] 24)).grown hgrow (by have := HB.out.size; simp; omega) (fun k hk => (HOW.out.lt k hk).1)
      have d0 : w1.cell? ⟨b, off + j, none⟩ = some (.int .i64 k) := (hbel.cell (p := ⟨b, off + j, none⟩) hbl).trans C00.out
      have R : Hid (w1.ownsRow w.heap.size 24 1 v' (j + 1) ((upPre ks ns (j + 1)).map fun (x : Nat) => Value.int .u64 (x : Int)) ∧ Below w.heap.size w w1) := by
        refine ⟨?_, hbel⟩
        rw [E2.out, List.map_append]
        exact hown'
      clear hown' hgrow hnil hbel c0
      go_wp2
      go_roundw
      case rel => exact ⟨j + 1, by omega, by go_num, val_int (by rw [E.out]; omega), R.out.1, R.out.2⟩
      case measure => simp [intOf]; omega
    · have hj' : j = len := by omega
      subst hj'
      have HR : Hid (Tells j (upTo j ks ns j) true w (.returned (.tuple #[u7, .bool true])) wr) := by
        obtain ⟨A', c', e, hc', hw'⟩ := words_row HOW.out (upPre_all ks ns j (fun i hi => (HK.out.2.2 i (by rw [HW.out.1]; exact hi)).2))
        rw [e, upPre_eq]
        exact ⟨A', c', rfl, hc', hw', HB.out⟩
      have HVR := Lib.hid (HV.out.below HB.out)
      have HNL := Lib.hid HV.out.1
      go_wp2_with fail
      go_loop [12] (fun iv => ∃ i : Nat, iv = .int .i64 i ∧ T ≤ i ∧ i ≤ 64 * len2 ∧ NoneTill ns T i) (fun i => 64 * len2 - (intOf i).toNat)
      case atStart => exact ⟨psum ks j, rfl, by rw [HTT.out]; exact Nat.le_refl _, by rw [← HTT.out]; exact hm2, fun a h1 h2 => by rw [HTT.out] at h1; omega⟩
      case round =>
        obtain ⟨i, rfl, hi1, hi2, hn⟩ := hrel
        have HN := Lib.hid hn
        clear hn
        by_cases hlt2 : i < 64 * len2
        · cases hb : bitAt ns i with
          | true =>
            have CB := Lib.hid (rbit_any A2 len2 cap2 ns i wr (by omega) hc2 HVR.out hlt2)
            rw [hb] at CB
            have R : Hid (UnpTold j T ks ns w (.returned (.tuple #[.slice none 0 0, .bool false])) wr) := by
              refine .inr ⟨?_, rfl, HB.out⟩
              have := nextFrom_yes ns i (64 * ns.length - T) T hi1 (by rw [HNL.out]; omega) hb HN.out
              unfold nextN
              rw [this]
              intro h
              cases h
            clear hb
            go_wp2_with (first | (go_at_call 27; refine CB.out.mono ?_; rintro e w' ⟨rfl, rfl⟩))
            go_ret2
            exact R.out
          | false =>
            have CB := Lib.hid (rbit_any A2 len2 cap2 ns i wr (by omega) hc2 HVR.out hlt2)
            rw [hb] at CB
            have R : Hid (NoneTill ns T (i + 1)) := by
              intro a h1 h2
              by_cases e : a = i
              · subst e; exact hb
              · exact HN.out a h1 (by omega)
            clear hb
            go_wp2_with (first | (go_at_call 27; refine CB.out.mono ?_; rintro e w' ⟨rfl, rfl⟩))
            go_round
            case rel => exact ⟨i + 1, by go_num, by omega, by omega, R.out⟩
            case measure => simp [intOf]; omega
        · have R : Hid (UnpTold j T ks ns w (.returned (.tuple #[u7, .bool true])) wr) := .inl ⟨next_none (q := i) (by rw [HNL.out]; omega) HN.out, HR.out⟩
          go_wp2
          go_ret2
          exact R.out

theorem rUnpack_bad (A A2 : Option Addr) (len cap len2 cap2 : Nat) (zs : List Int) (w : World) (hl : len ≤ 1000) (hc : len ≤ cap) (hw : Ints w A len zs) (hk : WBad zs) :
    Calls Tryd.prog 23 #[.slice A len cap, .slice A2 len2 cap2] w (NoneTold w) := by
  have C := Lib.hid (rsize_no A len cap zs w hl hc hw hk)
  go_enter Tryd.func23, Tryd.ntmps23
  go_wp2_with fail
  refine C.out.mono ?_; rintro e w' ⟨rfl, rfl⟩
  go_wp2
  go_ret2
  exact ⟨rfl, Below.refl _ _⟩
theorem rUnpack_len (A A2 : Option Addr) (len cap len2 cap2 : Nat) (zs : List Int) (ks : List Nat) (w : World) (hc : len ≤ cap) (hl2 : len2 ≤ 1000) (hw : Ints w A len zs) (hk : WOk zs ks) (hne : len2 ≠ (psum ks len + 63) / 64) :
    Calls Tryd.prog 23 #[.slice A len cap, .slice A2 len2 cap2] w (NoneTold w) := by
  have hl : len ≤ 100 := by have := hk.1; have := hw.1; omega
  have hpl := psum_le hk len (by rw [hw.1]; exact Nat.le_refl _)
  have C := Lib.hid (rsize_yes A len cap zs ks w hc hw hk)
  obtain ⟨T, hT⟩ : ∃ T, T = psum ks len := ⟨_, rfl⟩
  rw [← hT] at C hne hpl
  have t : ((len2 : Int) != ((T : Int) + 63) / 64) = true := by simp; omega
  clear hne hT
  go_enter Tryd.func23, Tryd.ntmps23
  go_wp2_with fail
  refine C.out.mono ?_; rintro e w' ⟨rfl, rfl⟩
  go_wp2
  go_ret2
  exact ⟨rfl, Below.refl _ _⟩

/-- Both Packs tell the same. -/
theorem pack_both (A A2 : Option Addr) (len cap len2 cap2 : Nat) (zs : List Int) (vs : List Nat) (hl : len ≤ 1000) (hl2 : len2 ≤ 1000) (hc : len ≤ cap) (hc2 : len2 ≤ cap2) (hz : zs.length = len) : ∃ l xs b, l ≤ 1000 ∧
    (∀ w, Ints w A len zs → Words w A2 len2 vs → Calls Tryd.prog 20 #[.slice A len cap, .slice A2 len2 cap2] w (Tells l xs b w)) ∧
    (∀ w, Ints w A len zs → Words w A2 len2 vs → Calls Tryd.prog 21 #[.slice A len cap, .slice A2 len2 cap2] w (Tells l xs b w)) := by
  rcases w_ways zs with ⟨ks, hk⟩ | hb
  · have hpl := psum_le hk len (by rw [hz]; exact Nat.le_refl _)
    have hl100 : len ≤ 100 := by have := hk.1; omega
    by_cases hlen : len2 = len
    · subst hlen
      rcases v_ways ks vs with hv | ⟨q, hq, hq1, hq2⟩
      · exact ⟨_, _, _, by omega, fun w hw hv2 => (Pack_yes A A2 len2 cap cap2 zs ks vs w hc hc2 hw hv2 hk hv).mono fun e w' h => Tells.of h, fun w hw hv2 => (rPack_yes A A2 len2 cap cap2 zs ks vs w hc hc2 hw hv2 hk hv).mono fun e w' h => Tells.of h⟩
      · have hq' : q < len2 := by rw [← hz, hk.2.1]; exact hq
        exact ⟨0, [], false, by omega, fun w hw hv2 => (Pack_over A A2 len2 cap cap2 q zs ks vs w hc hc2 hw hv2 hk hq' hq1 hq2).mono fun e w' h => Tells.no h, fun w hw hv2 => (rPack_over A A2 len2 cap cap2 q zs ks vs w hc hc2 hw hv2 hk hq' hq1 hq2).mono fun e w' h => Tells.no h⟩
    · exact ⟨0, [], false, by omega, fun w hw hv2 => (Pack_len A A2 len cap len2 cap2 zs ks w hc hl2 hw hk hlen).mono fun e w' h => Tells.no h, fun w hw hv2 => (rPack_len A A2 len cap len2 cap2 zs ks w hc hl2 hw hk hlen).mono fun e w' h => Tells.no h⟩
  · exact ⟨0, [], false, by omega, fun w hw hv2 => (Pack_bad A A2 len cap len2 cap2 zs w hl hc hw hb).mono fun e w' h => Tells.no h, fun w hw hv2 => (rPack_bad A A2 len cap len2 cap2 zs w hl hc hw hb).mono fun e w' h => Tells.no h⟩
/-- Both Unpacks tell the same. -/
theorem unpack_both (A A2 : Option Addr) (len cap len2 cap2 : Nat) (zs : List Int) (ns : List Nat) (hl : len ≤ 1000) (hl2 : len2 ≤ 1000) (hc : len ≤ cap) (hc2 : len2 ≤ cap2) (hz : zs.length = len) (hn : ns.length = len2) : ∃ l xs b, l ≤ 1000 ∧
    (∀ w, TabW w → Ints w A len zs → Words w A2 len2 ns → Calls Tryd.prog 22 #[.slice A len cap, .slice A2 len2 cap2] w (Tells l xs b w)) ∧
    (∀ w, Ints w A len zs → Words w A2 len2 ns → Calls Tryd.prog 23 #[.slice A len cap, .slice A2 len2 cap2] w (Tells l xs b w)) := by
  rcases w_ways zs with ⟨ks, hk⟩ | hb
  · by_cases hlen : len2 = (psum ks len + 63) / 64
    · rcases unpack_tells A A2 len cap len2 cap2 zs ns hl hl2 hc hc2 hz hn with ⟨ks', hk', hl', hx, U⟩ | ⟨hno, U⟩
      · refine ⟨_, _, _, hl, U, fun w hw hv => (rUnpack_core A A2 len cap len2 cap2 zs ks' ns w hc hc2 hw hv hk' hl').mono fun e w' h => ?_⟩
        rcases h with ⟨_, h⟩ | ⟨h, _⟩
        · exact h
        · exact absurd hx h
      · refine ⟨_, _, _, by omega, U, fun w hw hv => (rUnpack_core A A2 len cap len2 cap2 zs ks ns w hc hc2 hw hv hk hlen).mono fun e w' h => ?_⟩
        rcases h with ⟨h, _⟩ | ⟨_, h⟩
        · exact absurd h (hno ks hk hlen)
        · exact Tells.no h
    · exact ⟨0, [], false, by omega, fun w ht hw hv => (Unpack_len A A2 len cap len2 cap2 zs ks w hc hl2 hw hk hlen).mono fun e w' h => Tells.no h, fun w hw hv => (rUnpack_len A A2 len cap len2 cap2 zs ks w hc hl2 hw hk hlen).mono fun e w' h => Tells.no h⟩
  · exact ⟨0, [], false, by omega, fun w ht hw hv => (Unpack_bad A A2 len cap len2 cap2 zs w hl hc hw hb).mono fun e w' h => Tells.no h, fun w hw hv => (rUnpack_bad A A2 len cap len2 cap2 zs w hl hc hw hb).mono fun e w' h => Tells.no h⟩
end Go.Proofs.YtefpgpehncllnaaDoor
