/- The contracts of ring's maySums and May, where they tell true. WRITTEN BY gen_rg6.py. -/
import Derived.Test.YtbmjpfcnagodaaaRg5
-- prune
namespace Go.Proofs.Ytbmjpfcnagodaaa
open Go.ChangeShapes Go.WideShapes Go.ChangeAt Go.RowKit
set_option linter.unusedVariables false

theorem sumF_mono {f : Nat → Int} {sn : Nat} (h : ∀ i, i < sn → 0 ≤ f i) {i : Nat} (hi : i ≤ sn) : sumF f i ≤ sumF f sn := by
  induction sn with
  | zero => have : i = 0 := by omega
            subst this; exact Int.le_refl _
  | succ m ih =>
    by_cases e : i = m + 1
    · subst e; exact Int.le_refl _
    · have h1 := ih (fun j hj => h j (by omega)) (by omega)
      have h2 := h m (by omega)
      simp only [sumF]
      omega
set_option maxRecDepth 100000 in
set_option maxHeartbeats 4000000 in
theorem maySums_yes (k l v b sl a : Int) (sa ha : Option Addr) (sn sc hc : Nat) (f : Nat → Int) (w : World) (h : RP k l v b sl) (a1 : 0 ≤ a) (a2 : a ≤ 1099511627776) (hm : MaySums l b (a / sl) sn f) (hf : SumsAt w sa sn f) :
    Calls Try.prog 33 #[.agg #[.int .i64 k, .int .i64 l, .int .i64 v, .int .i64 b], .agg #[.int .i64 a, .int .i64 0, .slice sa sn sc, .slice ha 0 hc]] w fun e w' => e = .returned (.bool true) ∧ Below w.heap.size w w' := by
  have BG := Lib.hid (fun u (i : Nat) (hi : (i : Int) ≤ a / sl) (h16 : i ≤ 16) => begun_any k l v b sl a 0 (i : Int) sa ha sn sc 0 hc u h a1 a2 (by omega) (by omega) true (by simpa using hi))
  obtain ⟨l1, l2, v1, v2, b1, b2, s1, s2, _⟩ := h.bd
  have HE := Lib.hid hm.each
  have HA := Lib.hid hm.all
  have HM := Lib.hid (fun i hi => sumF_mono (fun i hi => (hm.each i hi).1) (i := i) hi)
  have HB := Lib.hid (sumF_bd (fun i hi => ⟨(hm.each i hi).1, (hm.each i hi).2.1⟩) l2)
  have HF := Lib.hid hf
  have hn16 : sn ≤ 16 := by rcases hm.len with e | e <;> omega
  have HL := Lib.hid hm.len
  have HP := Lib.hid (PC.made w k l v b a 0 (.slice sa sn sc) (.slice ha 0 hc) 23 27)
  have T12 : (((sn : Int) != 0) = false) ∨ (((sn : Int) != 0) = true ∧ ((sn : Int) != b) = false) := by
    rcases HL.out with e | e
    · exact .inl (by simp [e])
    · exact .inr ⟨by simp; omega, by simp [e]⟩
  clear h hm hf a1 a2 v1 v2 s1 s2 HL
  generalize a / sl = N at *
  rcases T12 with t1 | ⟨t1, t2⟩
  all_goals
    go_enter Try.func33, Try.ntmps33
    go_wp2_with fail
    generalize (w.alloc (.cells #[.int .i64 k, .int .i64 l, .int .i64 v, .int .i64 b] 23)).alloc (.cells #[.int .i64 a, .int .i64 0, .slice sa sn sc, .slice ha 0 hc] 27) = w0 at HP ⊢
    go_loopw [5, 25] (fun vl vi wr => ∃ i : Nat, i ≤ sn ∧ vi = .int .i64 (i : Int) ∧ vl = .int .i64 (l - sumF f i) ∧ PC w k l v b a 0 (.slice sa sn sc) (.slice ha 0 hc) wr) (fun _ vi _ => sn - (intOf vi).toNat)
    case atStart => exact ⟨0, Nat.zero_le _, rfl, by simp [sumF], HP.out⟩
    case round =>
      obtain ⟨i, hi, rfl, rfl, hr⟩ := hrel
      have R1 := Lib.hid hr
      clear hr HP t1
      obtain ⟨c1, c2⟩ := HB.out i hi
      obtain ⟨z0, z1, z2, z3, z4, z5, z6, z7⟩ := R1.out.eight
      by_cases hlt : i < sn
      · obtain ⟨g1, o1, rfl, hl, hcell⟩ := HF.out (by omega)
        obtain ⟨x1, x2, x3⟩ := HE.out i hlt
        have HS := Lib.hid (show sumF f (i + 1) = sumF f i + f i from rfl)
        have m1 := HM.out (i + 1) (by omega)
        rw [HS.out] at m1
        have m2 := HA.out
        have x0 := (R1.out.be.cell (p := ⟨g1, o1 + i, none⟩) hl).trans (hcell i hlt)
        clear hcell
        generalize sumF f sn = tt at *
        generalize f i = x at *
        generalize sumF f i = c at *
        have y1 : x ≤ l - c := by omega
        have B0 : (0 : Int) ≤ (i : Int) := by omega
        have B1 : (i : Int) < (sn : Int) := by omega
        by_cases hx : 0 < x
        · have CB := Lib.hid (BG.out · i (x3 hx) (by omega))
          clear x3 m1 m2
          go_wp2_with fail
          refine (CB.out _).mono ?_; rintro e w2 ⟨rfl, hb⟩
          have R2 := Lib.hid (R1.out.step hb)
          clear hb
          go_wp2_with fail
          go_roundw
          case rel => exact ⟨i + 1, by omega, by go_num, by rw [HS.out]; congr 1; omega, R2.out⟩
          case measure => simp [intOf]; omega
        · clear x3 m1 m2
          go_wp2_with fail
          go_roundw
          case rel => exact ⟨i + 1, by omega, by go_num, by rw [HS.out]; congr 1; omega, R1.out⟩
          case measure => simp [intOf]; omega
      · go_wp2_with fail
        go_ret
        exact ⟨rfl, R1.out.be⟩
set_option maxRecDepth 100000 in
theorem May_yes (k l v b sl a : Int) (sa ha : Option Addr) (sn sc hc : Nat) (f : Nat → Int) (w : World) (h : RP k l v b sl) (a1 : 0 ≤ a) (a2 : a ≤ 1099511627776) (hm : MaySums l b (a / sl) sn f) (hf : SumsAt w sa sn f) :
    Calls Try.prog 13 #[.agg #[.int .i64 k, .int .i64 l, .int .i64 v, .int .i64 b], .agg #[.int .i64 a, .int .i64 0, .slice sa sn sc, .slice ha 0 hc]] w fun e w' => e = .returned (.bool true) ∧ Below w.heap.size w w' := by
  have CK := Lib.hid (fun u => Check_yes k l v b u h.p)
  have TK := Lib.hid (fun u => isTick_yes a u a1 a2)
  have MS := Lib.hid (fun u (hu : Below w.heap.size w u) => maySums_yes k l v b sl a sa ha sn sc hc f u h a1 a2 hm (hf.below hu))
  have tk : (k != 3) = false := by simp [h.k3]
  have HP := Lib.hid (PC.made w k l v b a 0 (.slice sa sn sc) (.slice ha 0 hc) 23 27)
  clear h hm hf
  go_enter Try.func13, Try.ntmps13
  go_wp2_with fail
  refine (CK.out _).mono ?_; rintro e w1 ⟨rfl, hb⟩
  have H1 := Lib.hid (HP.out.step hb)
  clear hb HP
  obtain ⟨z0, z1, z2, z3, z4, z5, z6, z7⟩ := H1.out.eight
  go_wp2_with fail
  refine (TK.out _).mono ?_; rintro e w' ⟨rfl, rfl⟩
  go_wp2_with fail
  refine (MS.out _ H1.out.be).mono ?_; rintro e w2 ⟨rfl, hb⟩
  have H2 := Lib.hid (H1.out.step hb)
  clear hb
  go_wp2_with fail
  go_ret
  exact ⟨rfl, H2.out.be⟩
end Go.Proofs.Ytbmjpfcnagodaaa
