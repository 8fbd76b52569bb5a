/- The contract of the document's May of a ring, where it tells true. WRITTEN BY gen_rg3.py. -/
import Derived.Test.YtbmjpfcnagodaaaRg2
-- prune
namespace Go.Proofs.Ytbmjpfcnagodaaa
open Go.ChangeShapes Go.WideShapes Go.ChangeAt Go.RowKit
set_option linter.unusedVariables false

/-- The sum of the first i. -/
def sumF (f : Nat → Int) : Nat → Int
  | 0 => 0
  | i + 1 => sumF f i + f i
/-- Sums that may be those of a ring. -/
structure MaySums (l b N : Int) (sn : Nat) (f : Nat → Int) : Prop where
  len : sn = 0 ∨ (sn : Int) = b
  each : ∀ i, i < sn → 0 ≤ f i ∧ f i ≤ l ∧ (0 < f i → (i : Int) ≤ N)
  all : sumF f sn ≤ l
theorem sumF_bd {f : Nat → Int} {sn : Nat} {l : Int} (h : ∀ i, i < sn → 0 ≤ f i ∧ f i ≤ l) (hl : l ≤ 1048576) (i : Nat) (hi : i ≤ sn) : 0 ≤ sumF f i ∧ sumF f i ≤ i * 1048576 := by
  induction i with
  | zero => simp [sumF]
  | succ i ih =>
    have := h i (by omega)
    have := ih (by omega)
    simp only [sumF]
    omega
theorem K8 {w0 w : World} {k l v b a n : Int} {x y : Value} {g1 o : Nat} {z : Value} (h : PC w0 k l v b a n x y w) (hl : g1 < w0.heap.size) (hz : w0.cell? ⟨g1, o, none⟩ = some z) : w.cell? ⟨w0.heap.size, 0, none⟩ = some (.int .i64 k) ∧ w.cell? ⟨w0.heap.size, 1, none⟩ = some (.int .i64 l) ∧ w.cell? ⟨w0.heap.size, 2, none⟩ = some (.int .i64 v) ∧ w.cell? ⟨w0.heap.size, 3, none⟩ = some (.int .i64 b) ∧ w.cell? ⟨w0.heap.size + 1, 0, none⟩ = some (.int .i64 a) ∧ w.cell? ⟨w0.heap.size + 1, 1, none⟩ = some (.int .i64 n) ∧ w.cell? ⟨w0.heap.size + 1, 2, none⟩ = some x ∧ w.cell? ⟨w0.heap.size + 1, 3, none⟩ = some y ∧ w.cell? ⟨g1, o, none⟩ = some z :=
  ⟨h.p0, h.p1, h.p2, h.p3, h.c0, h.c1, h.c2, h.c3, (h.be.cell (p := ⟨g1, o, none⟩) hl).trans hz⟩
set_option maxRecDepth 100000 in
set_option maxHeartbeats 4000000 in
theorem rMay_yes (k l v b sl a : Int) (sa ha : Option Addr) (sn sc hc : Nat) (f : Nat → Int) (w : World) (h : RP k l v b sl) (a1 : 0 ≤ a) (a2 : a ≤ 1099511627776) (hm : MaySums l b (a / sl) sn f) (hf : SumsAt w sa sn f) :
    Calls Try.prog 14 #[.agg #[.int .i64 k, .int .i64 l, .int .i64 v, .int .i64 b], .agg #[.int .i64 a, .int .i64 0, .slice sa sn sc, .slice ha 0 hc]] w fun e w' => e = .returned (.bool true) ∧ Below w.heap.size w w' := by
  have CK := Lib.hid (fun u => rCheck_yes k l v b u h.p)
  have TK := Lib.hid (fun u => rTime_yes a u a1 a2)
  have NB := Lib.hid (fun u => number_any k l v b sl a u h a1 (by omega))
  obtain ⟨l1, l2, v1, v2, b1, b2, s1, s2, _⟩ := h.bd
  obtain ⟨d0, d1⟩ := div_bd a1 s1
  have hk3 : (k != 3) = false := by simp [h.k3]
  have HE := Lib.hid hm.each
  have HA := Lib.hid hm.all
  have HB := Lib.hid (sumF_bd (fun i hi => ⟨(hm.each i hi).1, (hm.each i hi).2.1⟩) l2)
  have HF := Lib.hid hf
  have hn16 : sn ≤ 16 := by rcases hm.len with e | e <;> omega
  have HL := Lib.hid hm.len
  have HP := Lib.hid (PC.made w k l v b a 0 (.slice sa sn sc) (.slice ha 0 hc) 23 27)
  clear h hm hf a1 a2 d1 v1 v2 s1 s2
  generalize a / sl = N at *
  go_enter Try.func14, Try.ntmps14
  go_wp2_with fail
  refine (CK.out _).mono ?_; rintro e w1 ⟨rfl, hb⟩
  have H1 := Lib.hid (HP.out.step hb)
  clear hb HP
  obtain ⟨z0, z1, z2, z3, z4, z5, z6, z7⟩ := H1.out.eight
  go_wp2_with fail
  refine (TK.out _).mono ?_; rintro e w' ⟨rfl, rfl⟩
  have T12 : (((sn : Int) != 0) = false) ∨ (((sn : Int) != 0) = true ∧ ((sn : Int) != b) = false) := by
    rcases HL.out with e | e
    · exact .inl (by simp [e])
    · exact .inr ⟨by simp; omega, by simp [e]⟩
  clear HL
  rcases T12 with t1 | ⟨t1, t2⟩
  all_goals
    go_wp2_with fail
    go_loopw [5, 6] (fun vn vi wr => ∃ i : Nat, i ≤ sn ∧ vi = .int .i64 (i : Int) ∧ vn = .int .i64 (sumF f i) ∧ PC w k l v b a 0 (.slice sa sn sc) (.slice ha 0 hc) wr) (fun _ vi _ => sn - (intOf vi).toNat)
    case atStart => exact ⟨0, Nat.zero_le _, rfl, rfl, H1.out⟩
    case round =>
      obtain ⟨i, hi, rfl, rfl, hr⟩ := hrel
      have R1 := Lib.hid hr
      clear hr H1 z0 z1 z2 z3 z4 z5 z6 z7 t1
      obtain ⟨c1, c2⟩ := HB.out i hi
      by_cases hlt : i < sn
      · obtain ⟨g1, o1, rfl, hl, hcell⟩ := HF.out (by omega)
        obtain ⟨x1, x2, x3⟩ := HE.out i hlt
        have X := Lib.hid (hcell i hlt)
        have x0 := (R1.out.be.cell (p := ⟨g1, o1 + i, none⟩) hl).trans X.out
        have HS := Lib.hid (show sumF f (i + 1) = sumF f i + f i from rfl)
        clear hcell
        generalize f i = x at *
        generalize sumF f i = c at *
        have y1 : decide (x < 0) = false := by simp; omega
        have y2 : decide (l < x) = false := by simp; omega
        have B0 : (0 : Int) ≤ (i : Int) := by omega
        have B1 : (i : Int) < (sn : Int) := by omega
        obtain ⟨z0, z1, z2, z3, z4, z5, z6, z7⟩ := R1.out.eight
        by_cases hx : 0 < x
        · have y3 : decide (0 < x) = true := by simp; omega
          have y4 : decide (N < (i : Int)) = false := by have := x3 hx; simp; omega
          clear x3
          go_wp2_with fail
          go_region_held3 (fun w' => w'.cell? ⟨w.heap.size, 0, none⟩ = some (.int .i64 k) ∧ w'.cell? ⟨w.heap.size, 1, none⟩ = some (.int .i64 l) ∧ w'.cell? ⟨w.heap.size, 2, none⟩ = some (.int .i64 v) ∧ w'.cell? ⟨w.heap.size, 3, none⟩ = some (.int .i64 b) ∧ w'.cell? ⟨w.heap.size + 1, 0, none⟩ = some (.int .i64 a) ∧ w'.cell? ⟨w.heap.size + 1, 1, none⟩ = some (.int .i64 0) ∧ w'.cell? ⟨w.heap.size + 1, 2, none⟩ = some (.slice (some ⟨g1, o1, none⟩) sn sc) ∧ w'.cell? ⟨w.heap.size + 1, 3, none⟩ = some (.slice ha 0 hc) ∧ w'.cell? ⟨g1, o1 + i, none⟩ = some (.int .i64 x)) (first | (with_reducible exact K8 R1.out.drew hl X.out) | (with_reducible exact K8 R2.out hl X.out) | go_keep) (first | (go_at_call 28; (with_reducible refine (NB.out _).mono ?_); rintro e w2 ⟨rfl, hb⟩; have R2 := Lib.hid (R1.out.drew.step hb); clear hb))
          all_goals
            clear z0 z1 z2 z3 z4 z5 z6 z7 x0
            obtain ⟨z0, z1, z2, z3, z4, z5, z6, z7⟩ := R2.out.eight
            have x0 := (R2.out.be.cell (p := ⟨g1, o1 + i, none⟩) hl).trans X.out
            go_wp2_with fail
            go_roundw
            case rel => exact ⟨i + 1, by omega, by go_num, by rw [HS.out], R2.out⟩
            case measure => simp [intOf]; omega
        · have y3 : decide (0 < x) = false := by simp; omega
          clear x3
          go_wp2_with fail
          go_quiet (fail)
          go_wp2_with fail
          go_roundw
          case rel => exact ⟨i + 1, by omega, by go_num, by rw [HS.out], R1.out.drewN nq⟩
          case measure => simp [intOf]; omega
      · have E := HA.out
        rw [show sn = i by omega] at E
        generalize sumF f i = c at *
        obtain ⟨z0, z1, z2, z3, z4, z5, z6, z7⟩ := R1.out.eight
        have y5 : decide (c ≤ l) = true := by simp; omega
        go_wp2_with fail
        go_ret
        exact ⟨rfl, R1.out.be⟩
end Go.Proofs.Ytbmjpfcnagodaaa
