/- Books that may be: slices.ContainsFunc over books.wrong, books.May and the document's May. -/
import Derived.Test.YtgdcgilhaedbmacBk0
-- prune
namespace Go.Proofs.Ytgdcgilhaedbmac
open Go.ChangeShapes Go.WideShapes Go.ChangeAt Go.RowKit
set_option linter.unusedVariables false

theorem BksAt.six {w : World} {b o n i : Nat} {L : Nat → Bk} (h : BksAt w (some ⟨b, o, none⟩) n L) (hi : i < n) : b < w.heap.size ∧ Six w b (o + i * 6) (L i) := by
  obtain ⟨b', o', e, hl, hc⟩ := h (by omega)
  cases e
  exact ⟨hl, six_of (hc i hi)⟩
theorem BksAt.some {w : World} {A : Option Addr} {n : Nat} {L : Nat → Bk} (h : BksAt w A n L) (h0 : 0 < n) : ∃ b o, A = .some ⟨b, o, none⟩ := by
  obtain ⟨b, o, e, _⟩ := h h0
  exact ⟨b, o, e⟩
theorem Six.below {w w' : World} {b o : Nat} {B : Bk} (h : Six w b o B) (hb : b < w.heap.size) (hw : Below w.heap.size w w') : Six w' b o B := by
  obtain ⟨h0, h1, h2, h3, h4, h5⟩ := h
  exact ⟨(hw.cell (p := ⟨b, o, none⟩) hb).trans h0, (hw.cell (p := ⟨b, o + 1, none⟩) hb).trans h1, (hw.cell (p := ⟨b, o + 2, none⟩) hb).trans h2, (hw.cell (p := ⟨b, o + 3, none⟩) hb).trans h3, (hw.cell (p := ⟨b, o + 4, none⟩) hb).trans h4, (hw.cell (p := ⟨b, o + 5, none⟩) hb).trans h5⟩
/-- What IndexFunc tells. -/
def Indexed (n : Nat) (L : Nat → Bk) (w : World) (e : Ending) (w' : World) : Prop :=
  ∃ r : Int, e = .returned (.int .i64 r) ∧ ((∀ i, i < n → MayB (L i)) → r < 0) ∧ ((¬ ∀ i, i < n → MayB (L i)) → 0 ≤ r) ∧ Below w.heap.size w w'
set_option maxRecDepth 100000 in
set_option maxHeartbeats 4000000 in
theorem IndexFunc_any (A : Option Addr) (n c : Nat) (L : Nat → Bk) (w : World) (hh : BksAt w A n L) (hn : n ≤ 1000) :
    Calls Try.prog 31 #[.slice A n c, .func (.func 26) #[] #[]] w (Indexed n L w) := by
  have HH := Lib.hid hh
  clear hh
  go_enter Try.func31, Try.ntmps31
  go_wp2_with fail
  go_loopw [8] (fun vi wr => ∃ i : Nat, i ≤ n ∧ vi = .int .i64 (i : Int) ∧ Hid (∀ q, q < i → MayB (L q)) ∧ Below w.heap.size w wr) (fun vi _ => n - (intOf vi).toNat)
  case atStart => exact ⟨0, Nat.zero_le _, rfl, Lib.hid (fun q hq => absurd hq (by omega)), Below.refl _ _⟩
  case round =>
    obtain ⟨i, hi, rfl, HM, hr⟩ := hrel
    have R1 := Lib.hid hr
    clear hr
    by_cases hlt : i < n
    · obtain ⟨b1, o1, rfl⟩ := HH.out.some (by omega)
      obtain ⟨hl, hs⟩ := HH.out.six hlt
      obtain ⟨q0, q1, q2, q3, q4, q5⟩ := hs.below hl R1.out
      have B0 : (0 : Int) ≤ (i : Int) := by omega
      have B1 : (i : Int) < (n : Int) := by omega
      by_cases hm : MayB (L i)
      · have WR := Lib.hid (fun u => wrong_any (L i) false u ⟨fun _ => rfl, fun _ => hm⟩)
        have HN := Lib.hid (show ∀ q, q < i + 1 → MayB (L q) from fun q hq => by
          by_cases e : q = i
          · subst e; exact hm
          · exact HM.out q (by omega))
        clear hm
        go_wp2_with fail
        refine (WR.out _).mono ?_; rintro e w1 ⟨rfl, hb⟩
        have R2 := Lib.hid (R1.out.trans (hb.mono R1.out.size))
        clear hb
        go_wp2_with fail
        go_roundw
        case rel => exact ⟨i + 1, by omega, by go_num, HN, R2.out⟩
        case measure => simp [intOf]; omega
      · have WR := Lib.hid (fun u => wrong_any (L i) true u ⟨fun q => absurd q hm, fun q => by cases q⟩)
        have HN := Lib.hid (show ¬ ∀ q, q < n → MayB (L q) from fun q => hm (q i hlt))
        clear hm
        go_wp2_with fail
        refine (WR.out _).mono ?_; rintro e w1 ⟨rfl, hb⟩
        have R2 := Lib.hid (R1.out.trans (hb.mono R1.out.size))
        clear hb
        go_wp2_with fail
        go_ret
        exact ⟨_, rfl, fun q => absurd q HN.out, fun _ => by omega, R2.out⟩
    · have e : i = n := by omega
      subst e
      go_wp2_with fail
      go_ret
      exact ⟨_, rfl, fun _ => by decide, fun q => absurd HM.out q, R1.out⟩
theorem ContainsFunc_any (r : Bool) (A : Option Addr) (n c : Nat) (L : Nat → Bk) (w : World) (hh : BksAt w A n L) (hn : n ≤ 1000) (hr : (∀ i, i < n → MayB (L i)) ↔ r = false) :
    Calls Try.prog 25 #[.slice A n c, .func (.func 26) #[] #[]] w fun e w' => e = .returned (.bool r) ∧ Below w.heap.size w w' := by
  have IX := Lib.hid (IndexFunc_any A n c L w hh hn)
  have HR := Lib.hid hr
  clear hh hr
  go_enter Try.func25, Try.ntmps25
  go_wp2_with fail
  refine IX.out.mono ?_; rintro e w1 ⟨x, rfl, h1, h2, hb⟩
  have H2 := Lib.hid hb
  cases r with
  | true =>
    have h3 := h2 (fun q => by have := HR.out.1 q; cases this)
    have d : decide (0 ≤ x) = true := by simp; omega
    clear h1 h2 hb
    go_wp2_with fail
    go_ret
    exact ⟨rfl, H2.out⟩
  | false =>
    have h3 := h1 (HR.out.2 rfl)
    have d : decide (0 ≤ x) = false := by simp; omega
    clear h1 h2 hb
    go_wp2_with fail
    go_ret
    exact ⟨rfl, H2.out⟩
/-- Books that may be. -/
def MayBs (n : Nat) (L : Nat → Bk) : Prop := n = 8 ∧ ∀ i, i < 8 → MayB (L i)
set_option maxRecDepth 100000 in
set_option maxHeartbeats 4000000 in
theorem May_any (r : Bool) (A : Option Addr) (n c : Nat) (L : Nat → Bk) (w : World) (hh : BksAt w A n L) (hn : n ≤ 1000) (hr : MayBs n L ↔ r = true) :
    Calls Try.prog 11 #[.slice A n c] w fun e w' => e = .returned (.bool r) ∧ Below w.heap.size w w' := by
  by_cases h8 : n = 8
  · subst h8
    have CF := Lib.hid (ContainsFunc_any (!r) A 8 c L w hh hn ⟨fun q => by rw [hr.1 ⟨rfl, q⟩]; rfl, fun q => (hr.2 (by cases r with | true => rfl | false => cases q)).2⟩)
    clear hh hr
    go_enter Try.func11, Try.ntmps11
    go_wp2_with fail
    refine CF.out.mono ?_; rintro e w1 ⟨rfl, hb⟩
    have H2 := Lib.hid hb
    clear hb
    go_wp2_with fail
    go_ret
    exact ⟨by cases r <;> rfl, H2.out⟩
  · have d : ((n : Int) == 8) = false := by simp; omega
    obtain rfl : r = false := by
      cases r with
      | false => rfl
      | true => exact absurd (hr.2 rfl).1 h8
    clear hh hr
    go_enter Try.func11, Try.ntmps11
    go_wp2_with fail
    go_ret
    exact ⟨rfl, Below.refl _ _⟩
set_option maxRecDepth 100000 in
set_option maxHeartbeats 4000000 in
theorem rMay_any (r : Bool) (A : Option Addr) (n c : Nat) (L : Nat → Bk) (w : World) (hh : BksAt w A n L) (hn : n ≤ 1000) (hr : MayBs n L ↔ r = true) :
    Calls Try.prog 12 #[.slice A n c] w fun e w' => e = .returned (.bool r) ∧ Below w.heap.size w w' := by
  by_cases h8 : n = 8
  · subst h8
    have HH := Lib.hid hh
    have HR := Lib.hid hr
    have CY := Lib.hid (fun k l v b u (h : MayP k l v b) => rCheck_yes k l v b u h)
    have CN := Lib.hid (fun k l v b u (h : ¬ MayP k l v b) => rCheck_no k l v b u h)
    clear hh hr
    go_enter Try.func12, Try.ntmps12
    go_wp2_with fail
    go_loopw [3] (fun vi wr => ∃ i : Nat, i ≤ 8 ∧ vi = .int .i64 (i : Int) ∧ Hid (∀ q, q < i → MayB (L q)) ∧ Below w.heap.size w wr) (fun vi _ => 8 - (intOf vi).toNat)
    case atStart => exact ⟨0, Nat.zero_le _, rfl, Lib.hid (fun q hq => absurd hq (by omega)), Below.refl _ _⟩
    case round =>
      obtain ⟨i, hi, rfl, HM, hr⟩ := hrel
      have R1 := Lib.hid hr
      clear hr
      by_cases hlt : i < 8
      · obtain ⟨b1, o1, rfl⟩ := HH.out.some (by omega)
        obtain ⟨hl, hs⟩ := HH.out.six hlt
        obtain ⟨q0, q1, q2, q3, q4, q5⟩ := hs.below hl R1.out
        clear hs
        have HN := Lib.hid (show MayB (L i) → ∀ q, q < i + 1 → MayB (L q) from fun hm q hq => by
          by_cases e : q = i
          · subst e; exact hm
          · exact HM.out q (by omega))
        have HF := Lib.hid (show ¬ MayB (L i) → false = r from fun hm => by
          cases r with
          | false => rfl
          | true => exact absurd ((HR.out.2 rfl).2 i hlt) hm)
        generalize L i = B at *
        obtain ⟨on, k, l, v, b, m⟩ := B
        simp only at q0 q1 q2 q3 q4 q5
        have B0 : (0 : Int) ≤ (i : Int) := by omega
        have B1 : (i : Int) < 8 := by omega
        by_cases hm0 : m < 0
        · have E := Lib.hid (HF.out (fun q => by have := q.n0; simp only at this; omega))
          have d : decide (m < 0) = true := by simp; omega
          go_wp2_with fail
          go_ret
          exact ⟨ret_bool E.out, R1.out⟩
        have d0 : decide (m < 0) = false := by simp; omega
        by_cases hm1 : 1073741824 < m
        · have E := Lib.hid (HF.out (fun q => by have := q.n1; simp only at this; omega))
          have d : decide (1073741824 < m) = true := by simp; omega
          go_wp2_with fail
          go_ret
          exact ⟨ret_bool E.out, R1.out⟩
        have d1 : decide (1073741824 < m) = false := by simp; omega
        cases on with
        | true =>
          by_cases hp : MayP k l v b
          · by_cases hz : m < 1
            · have E := Lib.hid (HF.out (fun q => by have := (q.y rfl).2; simp only at this; omega))
              have d2 : decide (m < 1) = true := by simp; omega
              go_wp2_with fail
              refine (CY.out k l v b _ hp).mono ?_; rintro e w1 ⟨rfl, hb⟩
              have R2 := Lib.hid (R1.out.trans (hb.mono R1.out.size))
              obtain ⟨q0, q1, q2, q3, q4, q5⟩ := (show Six wr b1 (o1 + i * 6) ⟨true, k, l, v, b, m⟩ from ⟨q0, q1, q2, q3, q4, q5⟩).below (Nat.lt_of_lt_of_le hl R1.out.size) hb
              clear hb
              go_wp2_with fail
              go_ret
              exact ⟨ret_bool E.out, R2.out⟩
            · have HN2 := Lib.hid (HN.out ⟨by simp only; omega, by simp only; omega, fun _ => ⟨hp, by simp only; omega⟩, fun e => (by cases e)⟩)
              have d2 : decide (m < 1) = false := by simp; omega
              go_wp2_with fail
              refine (CY.out k l v b _ hp).mono ?_; rintro e w1 ⟨rfl, hb⟩
              have R2 := Lib.hid (R1.out.trans (hb.mono R1.out.size))
              obtain ⟨q0, q1, q2, q3, q4, q5⟩ := (show Six wr b1 (o1 + i * 6) ⟨true, k, l, v, b, m⟩ from ⟨q0, q1, q2, q3, q4, q5⟩).below (Nat.lt_of_lt_of_le hl R1.out.size) hb
              clear hb
              go_wp2_with fail
              go_roundw
              case rel => exact ⟨i + 1, by omega, by go_num, HN2, R2.out⟩
              case measure => simp [intOf]; omega
          · have E := Lib.hid (HF.out (fun q => hp (q.y rfl).1))
            go_wp2_with fail
            refine (CN.out k l v b _ hp).mono ?_; rintro e w1 ⟨rfl, hb⟩
            have R2 := Lib.hid (R1.out.trans (hb.mono R1.out.size))
            clear hb
            go_wp2_with fail
            go_ret
            exact ⟨ret_bool E.out, R2.out⟩
        | false =>
          have OK := Lib.hid (fun (q : k = 0 ∧ l = 0 ∧ v = 0 ∧ b = 0) => HN.out ⟨by simp only; omega, by simp only; omega, fun e => (by cases e), fun _ => q⟩)
          have NO := Lib.hid (fun (q : ¬ (k = 0 ∧ l = 0 ∧ v = 0 ∧ b = 0)) => HF.out (fun e => q (e.f rfl)))
          by_cases hk : k = 0 ∧ l = 0 ∧ v = 0 ∧ b = 0
          · obtain ⟨rfl, rfl, rfl, rfl⟩ := hk
            have HN2 := Lib.hid (OK.out ⟨rfl, rfl, rfl, rfl⟩)
            go_wp2_with fail
            go_roundw
            case rel => exact ⟨i + 1, by omega, by go_num, HN2, R1.out⟩
            case measure => simp [intOf]; omega
          · obtain rfl : false = r := NO.out hk
            have HK := Lib.hid hk
            clear hk OK NO HN HF
            go_wp2_with fail
            all_goals subst_vars
            all_goals first | (exfalso; exact HK.out ⟨rfl, rfl, rfl, rfl⟩) | (go_ret; exact ⟨rfl, R1.out⟩)
      · have e : i = 8 := by omega
        subst e
        have E := Lib.hid (HR.out.1 ⟨rfl, HM.out⟩)
        go_wp2_with fail
        go_ret
        exact ⟨ret_bool E.out.symm, R1.out⟩
  · have d : ((n : Int) != 8) = true := by simp; omega
    obtain rfl : r = false := by
      cases r with
      | false => rfl
      | true => exact absurd (hr.2 rfl).1 h8
    clear hh hr
    go_enter Try.func12, Try.ntmps12
    go_wp2_with fail
    go_ret
    exact ⟨rfl, Below.refl _ _⟩
end Go.Proofs.Ytgdcgilhaedbmac
