/- Whether hits may be those of a cell: exact's mayHits. WRITTEN BY gen_ex5.py. -/
import Derived.Test.YtgdcgilhaedbmaaEx4
-- prune
namespace Go.Proofs.Ytgdcgilhaedbmaa
open Go.ChangeShapes Go.WideShapes Go.ChangeAt Go.RowKit
set_option linter.unusedVariables false

/-- The first i hits may be. -/
def GoodH (l v a : Int) (f g : Nat → Int) (i : Nat) : Prop := ∀ j, j < i → 0 ≤ f j ∧ a - v < f j ∧ f j ≤ a ∧ 1 ≤ g j ∧ sumF g j + g j ≤ l ∧ (0 < j → f (j - 1) < f j)
/-- The tick that the next one must be above. -/
def lastH (v a : Int) (f : Nat → Int) (i : Nat) : Int := if i = 0 then (if a - v < -1 then -1 else a - v) else f (i - 1)
theorem GoodH.sum {l v a : Int} {f g : Nat → Int} {i : Nat} (h : GoodH l v a f g i) (hl : 0 ≤ l) : 0 ≤ sumF g i ∧ sumF g i ≤ l := by
  induction i with
  | zero => simp only [sumF]; omega
  | succ i ih =>
    have h1 := ih (fun j hj => h j (by omega))
    have h2 := h i (by omega)
    simp only [sumF]; omega
theorem GoodH.all {l v a : Int} {f g : Nat → Int} {n : Nat} (h : GoodH l v a f g n) (hl : 0 ≤ l) : MayHits l v a n f g := by
  refine ⟨fun i hi => ?_, fun i hi => ?_, (h.sum hl).2⟩
  · have h1 : GoodH l v a f g i := fun j hj => h j (by omega)
    have h2 := h1.sum hl
    have h3 := h i hi
    exact ⟨h3.1, h3.2.1, h3.2.2.1, h3.2.2.2.1, by omega⟩
  · exact (h (i + 1) hi).2.2.2.2.2 (by omega)
theorem MayHits.good {l v a : Int} {f g : Nat → Int} {n : Nat} (h : MayHits l v a n f g) : GoodH l v a f g n := by
  intro j hj
  have h1 := h.each j hj
  refine ⟨h1.1, h1.2.1, h1.2.2.1, h1.2.2.2.1, ?_, fun h0 => ?_⟩
  · have mono : ∀ m, j + 1 ≤ m → m ≤ n → sumF g (j + 1) ≤ sumF g m := by
      intro m
      induction m with
      | zero => intro h1 _; omega
      | succ m ih =>
        intro h1 h2
        by_cases e : j = m
        · subst e; exact Int.le_refl _
        · have := ih (by omega) (by omega)
          have := (h.each m (by omega)).2.2.2.1
          simp only [sumF] at *
          omega
    have := mono n (by omega) (Nat.le_refl _)
    have := h.all
    simp only [sumF] at *
    omega
  · have := h.rise (j - 1) (by omega)
    rw [show j - 1 + 1 = j by omega] at this
    exact this
theorem GoodH.next {l v a : Int} {f g : Nat → Int} {i : Nat} (h : GoodH l v a f g i) (h1 : lastH v a f i < f i) (h2 : f i ≤ a) (h3 : 1 ≤ g i) (h4 : sumF g i + g i ≤ l) : GoodH l v a f g (i + 1) := by
  intro j hj
  by_cases e : j = i
  · subst e
    unfold lastH at h1
    by_cases z : j = 0
    · rw [if_pos z] at h1
      exact ⟨by split at h1 <;> omega, by split at h1 <;> omega, h2, h3, h4, fun q => by omega⟩
    · rw [if_neg z] at h1
      have := h (j - 1) (by omega)
      exact ⟨by omega, by omega, h2, h3, h4, fun _ => h1⟩
  · exact h j (by omega)
theorem GoodH.last {l v a : Int} {f g : Nat → Int} {i : Nat} (h : GoodH l v a f g (i + 1)) : lastH v a f i < f i := by
  have h1 := h i (by omega)
  unfold lastH
  by_cases z : i = 0
  · rw [if_pos z]; split <;> omega
  · rw [if_neg z]; exact h1.2.2.2.2.2 (by omega)
theorem GoodH.lastb {l v a : Int} {f g : Nat → Int} {i : Nat} (h : GoodH l v a f g i) (a1 : 0 ≤ a) (a2 : a ≤ 1099511627776) (v1 : 1 ≤ v) (v2 : v ≤ 1048576) : -1048577 ≤ lastH v a f i ∧ lastH v a f i ≤ 1099511627776 := by
  unfold lastH
  split
  · split <;> omega
  · have := h (i - 1) (by omega); omega

set_option maxRecDepth 100000 in
set_option maxHeartbeats 4000000 in
theorem mayHits_yes (k l v b a : Int) (sa ha : Option Addr) (sc n hc : Nat) (f g : Nat → Int) (w : World) (hP : EP k l v b) (a1 : 0 ≤ a) (a2 : a ≤ 1099511627776) (hh : HitsAt w ha n f g) (hn : n ≤ maxLen) (hm : MayHits l v a n f g) : Calls Try.prog 32 #[.agg #[.int .i64 k, .int .i64 l, .int .i64 v, .int .i64 b], .agg #[.int .i64 a, .int .i64 0, .slice sa 0 sc, .slice ha n hc]] w fun e w' => e = .returned (.bool true) ∧ Below w.heap.size w w' := by
  obtain ⟨l1, l2, v1, v2⟩ := hP.bd
  unfold maxLen at hn
  have HH := Lib.hid hh
  have HM := Lib.hid hm
  have L0 := Lib.hid (show lastH v a f 0 = if a - v < -1 then -1 else a - v from rfl)
  have LS := Lib.hid (fun i => (show lastH v a f (i + 1) = f i by unfold lastH; rw [if_neg (by omega)]; rfl))
  have e1 : IntKind.i64.wrap (a - v) = a - v := wrap_i (by omega) (by omega)
  clear hh hm hP
  have HP := Lib.hid (PC.made w k l v b a 0 (.slice sa 0 sc) (.slice ha n hc) 23 27)
  go_enter Try.func32, Try.ntmps32
  go_upto_region 1 with (fail)
  generalize (w.alloc (.cells #[.int .i64 k, .int .i64 l, .int .i64 v, .int .i64 b] 23)).alloc (.cells #[.int .i64 a, .int .i64 0, .slice sa 0 sc, .slice ha n hc] 27) = w0 at HP ⊢
  obtain ⟨z0, z1, z2, z3, z4, z5, z6, z7⟩ := HP.out.eight
  go_cut [5, 6] (fun s5 s6 wx => s5 = .int .i64 (lastH v a f 0) ∧ s6 = .int .i64 l ∧ PC w k l v b a 0 (.slice sa 0 sc) (.slice ha n hc) wx)
  case first =>
    by_cases hx : a - v < -1
    · go_region
      all_goals (go_wp2_with fail; go_meet; exact ⟨by rw [L0.out, if_pos (by omega)], rfl, by first | exact HP.out | exact HP.out.drew⟩)
    · go_region
      all_goals (go_wp2_with fail; go_meet; exact ⟨by rw [L0.out, if_neg (by omega)], rfl, by first | exact HP.out | exact HP.out.drew⟩)
  case rest =>
  obtain ⟨rfl, rfl, hz⟩ := hcut
  have R0 := Lib.hid hz
  clear hz HP z0 z1 z2 z3 z4 z5 z6 z7 e1
  obtain ⟨z0, z1, z2, z3, z4, z5, z6, z7⟩ := R0.out.eight
  go_wp2_with fail
  clear z0 z1 z2 z3 z4 z5 z6 z7
  go_loopw [5, 6, 20] (fun v5 v6 vi wr => ∃ i : Nat, i ≤ n ∧ vi = .int .i64 (i : Int) ∧ v5 = .int .i64 (lastH v a f i) ∧ v6 = .int .i64 (l - sumF g i) ∧ Hid (GoodH l v a f g i) ∧ PC w k l v b a 0 (.slice sa 0 sc) (.slice ha n hc) wr) (fun _ _ vi _ => n - (intOf vi).toNat)
  case atStart => exact ⟨0, Nat.zero_le _, rfl, rfl, by simp [sumF], Lib.hid (fun j hj => absurd hj (by omega)), R0.out⟩
  case round =>
    obtain ⟨i, hi, rfl, rfl, rfl, HG, hr⟩ := hrel
    have R1 := Lib.hid hr
    clear hr R0
    obtain ⟨c1, c2⟩ := HG.out.sum (by omega)
    obtain ⟨lb1, lb2⟩ := HG.out.lastb a1 a2 v1 v2
    by_cases hlt : i < n
    · obtain ⟨b1, o1, rfl, hl, hc'⟩ := HH.out (by omega)
      have q1 := (R1.out.be.cell (p := ⟨b1, o1 + i * 2, none⟩) hl).trans (hc' i hlt).1
      have q2 := (R1.out.be.cell (p := ⟨b1, o1 + i * 2 + 1, none⟩) hl).trans (hc' i hlt).2
      have HS := Lib.hid (show sumF g (i + 1) = sumF g i + g i from rfl)
      have LN := Lib.hid (LS.out i)
      have HN := Lib.hid (fun h1 h2 h3 h4 => HG.out.next (i := i) h1 h2 h3 h4)
      have RH := Lib.hid ((R1.out.alloc (.cells #[.int .i64 (f i), .int .i64 (g i)] 50)).be)
      have RP := Lib.hid (R1.out.alloc (.cells #[.int .i64 (f i), .int .i64 (g i)] 50))
      obtain ⟨z0, z1, z2, z3, z4, z5, z6, z7⟩ := R1.out.eight
      have lt1 : w.heap.size + 1 < wr.heap.size := R1.out.sz
      have lt0 : w.heap.size < wr.heap.size := by omega
      clear hc'
      obtain ⟨y, hy⟩ : ∃ y, f i = y := ⟨_, rfl⟩
      obtain ⟨x, hx⟩ : ∃ x, g i = x := ⟨_, rfl⟩
      obtain ⟨s, hs⟩ : ∃ s, sumF g i = s := ⟨_, rfl⟩
      obtain ⟨la, hla⟩ : ∃ la, lastH v a f i = la := ⟨_, rfl⟩
      have EX := Lib.hid hy
      have EY := Lib.hid hx
      have ES := Lib.hid hs
      have EL := Lib.hid hla
      rw [hy, hx] at RH RP
      rw [hy] at q1 LN
      rw [hx] at q2
      rw [hx, hs] at HS
      rw [hy, hx, hs, hla] at HN
      rw [hs] at c1 c2 ⊢
      rw [hla] at lb1 lb2 ⊢
      clear hy hx hs hla
      have B0 : (0 : Int) ≤ (i : Int) := by omega
      have B1 : (i : Int) < (n : Int) := by omega
      by_cases t1 : y ≤ la
      ·
          exfalso
          have q := HM.out.good
          have q1 : GoodH l v a f g (i + 1) := fun j hj => q j (by omega)
          have q2 := q1.last
          have q3 := q1 i (by omega)
          have e1 := EX.out
          have e2 := EY.out
          have e3 := ES.out
          have e4 := EL.out
          rw [e1, e2, e3] at q3
          rw [e1, e4] at q2
          omega
      · by_cases t2 : a < y
        ·
          exfalso
          have q := HM.out.good
          have q1 : GoodH l v a f g (i + 1) := fun j hj => q j (by omega)
          have q2 := q1.last
          have q3 := q1 i (by omega)
          have e1 := EX.out
          have e2 := EY.out
          have e3 := ES.out
          have e4 := EL.out
          rw [e1, e2, e3] at q3
          rw [e1, e4] at q2
          omega
        · by_cases t3 : x < 1
          ·
            exfalso
            have q := HM.out.good
            have q1 : GoodH l v a f g (i + 1) := fun j hj => q j (by omega)
            have q2 := q1.last
            have q3 := q1 i (by omega)
            have e1 := EX.out
            have e2 := EY.out
            have e3 := ES.out
            have e4 := EL.out
            rw [e1, e2, e3] at q3
            rw [e1, e4] at q2
            omega
          · by_cases t4 : l - s < x
            ·
              exfalso
              have q := HM.out.good
              have q1 : GoodH l v a f g (i + 1) := fun j hj => q j (by omega)
              have q2 := q1.last
              have q3 := q1 i (by omega)
              have e1 := EX.out
              have e2 := EY.out
              have e3 := ES.out
              have e4 := EL.out
              rw [e1, e2, e3] at q3
              rw [e1, e4] at q2
              omega
            · have GN := Lib.hid (HN.out (by omega) (by omega) (by omega) (by omega))
              have e2 : IntKind.i64.wrap (l - s - x) = l - s - x := wrap_i (by omega) (by omega)
              have u1 : la < y := by omega
              have u2 : y ≤ a := by omega
              have u3 : 1 ≤ x := by omega
              have u4 : x ≤ l - s := by omega
              clear t1 t2 t3 t4
              go_wp2_with fail
              go_quiet (fail)
              go_wp2_with fail
              go_roundw
              case rel => exact ⟨i + 1, by omega, by go_num, by rw [LN.out], by rw [HS.out]; congr 1; omega, GN, RP.out.drewN nq⟩
              case measure => simp [intOf]; omega
    · have e : i = n := by omega
      subst e
      go_wp2_with fail
      go_ret
      exact ⟨rfl, R1.out.be⟩

set_option maxRecDepth 100000 in
set_option maxHeartbeats 4000000 in
theorem mayHits_no (k l v b a : Int) (sa ha : Option Addr) (sc n hc : Nat) (f g : Nat → Int) (w : World) (hP : EP k l v b) (a1 : 0 ≤ a) (a2 : a ≤ 1099511627776) (hh : HitsAt w ha n f g) (hn : n ≤ maxLen) (hm : ¬ MayHits l v a n f g) : Calls Try.prog 32 #[.agg #[.int .i64 k, .int .i64 l, .int .i64 v, .int .i64 b], .agg #[.int .i64 a, .int .i64 0, .slice sa 0 sc, .slice ha n hc]] w fun e w' => e = .returned (.bool false) ∧ Below w.heap.size w w' := by
  obtain ⟨l1, l2, v1, v2⟩ := hP.bd
  unfold maxLen at hn
  have HH := Lib.hid hh
  have HM := Lib.hid hm
  have L0 := Lib.hid (show lastH v a f 0 = if a - v < -1 then -1 else a - v from rfl)
  have LS := Lib.hid (fun i => (show lastH v a f (i + 1) = f i by unfold lastH; rw [if_neg (by omega)]; rfl))
  have e1 : IntKind.i64.wrap (a - v) = a - v := wrap_i (by omega) (by omega)
  clear hh hm hP
  have HP := Lib.hid (PC.made w k l v b a 0 (.slice sa 0 sc) (.slice ha n hc) 23 27)
  go_enter Try.func32, Try.ntmps32
  go_upto_region 1 with (fail)
  generalize (w.alloc (.cells #[.int .i64 k, .int .i64 l, .int .i64 v, .int .i64 b] 23)).alloc (.cells #[.int .i64 a, .int .i64 0, .slice sa 0 sc, .slice ha n hc] 27) = w0 at HP ⊢
  obtain ⟨z0, z1, z2, z3, z4, z5, z6, z7⟩ := HP.out.eight
  go_cut [5, 6] (fun s5 s6 wx => s5 = .int .i64 (lastH v a f 0) ∧ s6 = .int .i64 l ∧ PC w k l v b a 0 (.slice sa 0 sc) (.slice ha n hc) wx)
  case first =>
    by_cases hx : a - v < -1
    · go_region
      all_goals (go_wp2_with fail; go_meet; exact ⟨by rw [L0.out, if_pos (by omega)], rfl, by first | exact HP.out | exact HP.out.drew⟩)
    · go_region
      all_goals (go_wp2_with fail; go_meet; exact ⟨by rw [L0.out, if_neg (by omega)], rfl, by first | exact HP.out | exact HP.out.drew⟩)
  case rest =>
  obtain ⟨rfl, rfl, hz⟩ := hcut
  have R0 := Lib.hid hz
  clear hz HP z0 z1 z2 z3 z4 z5 z6 z7 e1
  obtain ⟨z0, z1, z2, z3, z4, z5, z6, z7⟩ := R0.out.eight
  go_wp2_with fail
  clear z0 z1 z2 z3 z4 z5 z6 z7
  go_loopw [5, 6, 20] (fun v5 v6 vi wr => ∃ i : Nat, i ≤ n ∧ vi = .int .i64 (i : Int) ∧ v5 = .int .i64 (lastH v a f i) ∧ v6 = .int .i64 (l - sumF g i) ∧ Hid (GoodH l v a f g i) ∧ PC w k l v b a 0 (.slice sa 0 sc) (.slice ha n hc) wr) (fun _ _ vi _ => n - (intOf vi).toNat)
  case atStart => exact ⟨0, Nat.zero_le _, rfl, rfl, by simp [sumF], Lib.hid (fun j hj => absurd hj (by omega)), R0.out⟩
  case round =>
    obtain ⟨i, hi, rfl, rfl, rfl, HG, hr⟩ := hrel
    have R1 := Lib.hid hr
    clear hr R0
    obtain ⟨c1, c2⟩ := HG.out.sum (by omega)
    obtain ⟨lb1, lb2⟩ := HG.out.lastb a1 a2 v1 v2
    by_cases hlt : i < n
    · obtain ⟨b1, o1, rfl, hl, hc'⟩ := HH.out (by omega)
      have q1 := (R1.out.be.cell (p := ⟨b1, o1 + i * 2, none⟩) hl).trans (hc' i hlt).1
      have q2 := (R1.out.be.cell (p := ⟨b1, o1 + i * 2 + 1, none⟩) hl).trans (hc' i hlt).2
      have HS := Lib.hid (show sumF g (i + 1) = sumF g i + g i from rfl)
      have LN := Lib.hid (LS.out i)
      have HN := Lib.hid (fun h1 h2 h3 h4 => HG.out.next (i := i) h1 h2 h3 h4)
      have RH := Lib.hid ((R1.out.alloc (.cells #[.int .i64 (f i), .int .i64 (g i)] 50)).be)
      have RP := Lib.hid (R1.out.alloc (.cells #[.int .i64 (f i), .int .i64 (g i)] 50))
      obtain ⟨z0, z1, z2, z3, z4, z5, z6, z7⟩ := R1.out.eight
      have lt1 : w.heap.size + 1 < wr.heap.size := R1.out.sz
      have lt0 : w.heap.size < wr.heap.size := by omega
      clear hc'
      obtain ⟨y, hy⟩ : ∃ y, f i = y := ⟨_, rfl⟩
      obtain ⟨x, hx⟩ : ∃ x, g i = x := ⟨_, rfl⟩
      obtain ⟨s, hs⟩ : ∃ s, sumF g i = s := ⟨_, rfl⟩
      obtain ⟨la, hla⟩ : ∃ la, lastH v a f i = la := ⟨_, rfl⟩
      have EX := Lib.hid hy
      have EY := Lib.hid hx
      have ES := Lib.hid hs
      have EL := Lib.hid hla
      rw [hy, hx] at RH RP
      rw [hy] at q1 LN
      rw [hx] at q2
      rw [hx, hs] at HS
      rw [hy, hx, hs, hla] at HN
      rw [hs] at c1 c2 ⊢
      rw [hla] at lb1 lb2 ⊢
      clear hy hx hs hla
      have B0 : (0 : Int) ≤ (i : Int) := by omega
      have B1 : (i : Int) < (n : Int) := by omega
      by_cases t1 : y ≤ la
      ·
          go_wp2_with fail
          go_ret
          exact ⟨rfl, RH.out⟩
      · by_cases t2 : a < y
        ·
          go_wp2_with fail
          go_ret
          exact ⟨rfl, RH.out⟩
        · by_cases t3 : x < 1
          ·
            go_wp2_with fail
            go_ret
            exact ⟨rfl, RH.out⟩
          · by_cases t4 : l - s < x
            ·
              go_wp2_with fail
              go_ret
              exact ⟨rfl, RH.out⟩
            · have GN := Lib.hid (HN.out (by omega) (by omega) (by omega) (by omega))
              have e2 : IntKind.i64.wrap (l - s - x) = l - s - x := wrap_i (by omega) (by omega)
              have u1 : la < y := by omega
              have u2 : y ≤ a := by omega
              have u3 : 1 ≤ x := by omega
              have u4 : x ≤ l - s := by omega
              clear t1 t2 t3 t4
              go_wp2_with fail
              go_quiet (fail)
              go_wp2_with fail
              go_roundw
              case rel => exact ⟨i + 1, by omega, by go_num, by rw [LN.out], by rw [HS.out]; congr 1; omega, GN, RP.out.drewN nq⟩
              case measure => simp [intOf]; omega
    · have e : i = n := by omega
      subst e
      exact absurd (HG.out.all (by omega)) HM.out
end Go.Proofs.Ytgdcgilhaedbmaa
