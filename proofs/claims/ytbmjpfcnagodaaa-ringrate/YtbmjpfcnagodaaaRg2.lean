/- The contract of what the document says counts at a time. WRITTEN BY gen_rg2.py. -/
import Derived.Test.YtbmjpfcnagodaaaRg1
-- prune
namespace Go.Proofs.Ytbmjpfcnagodaaa
open Go.ChangeShapes Go.WideShapes Go.ChangeAt Go.RowKit
set_option linter.unusedVariables false

/-- The sum of g at i places from q on. -/
def csum (g : Int → Int) (q : Int) : Nat → Int
  | 0 => 0
  | i + 1 => csum g q i + g (q + i)
theorem csum_bd {g : Int → Int} (h : ∀ x, 0 ≤ g x ∧ g x ≤ 1048576) (q : Int) (i : Nat) : 0 ≤ csum g q i ∧ csum g q i ≤ i * 1048576 := by
  induction i with
  | zero => simp [csum]
  | succ i ih =>
    have := h (q + i)
    simp only [csum]
    omega
theorem inV_bd {b N : Int} {sn : Nat} {f : Nat → Int} (hb : 1 ≤ b) (hs : sn = 0 ∨ (sn : Int) = b) (hf : ∀ i, i < sn → 0 ≤ f i ∧ f i ≤ 1048576) (q : Int) : 0 ≤ inV b N sn f q ∧ inV b N sn f q ≤ 1048576 := by
  unfold inV
  split
  · omega
  · rename_i h
    have m0 : 0 ≤ q % b := Int.emod_nonneg _ (by omega)
    have m1 : q % b < b := Int.emod_lt_of_pos _ (by omega)
    exact hf _ (by omega)
/-- What counts at a time, by the document's words. -/
def cntV (b N now : Int) (sn : Nat) (f : Nat → Int) : Int := csum (inV b N sn f) (now - b + 1) b.toNat
set_option maxRecDepth 100000 in
set_option maxHeartbeats 2000000 in
theorem counts_any (k l v b sl a n t : Int) (sa ha : Option Addr) (sn sc hn hc : Nat) (f : Nat → Int) (w : World) (h : RP k l v b sl) (a1 : 0 ≤ a) (a2 : a ≤ 1099511627776) (t1 : a ≤ t) (t2 : t ≤ 2199023255552) (hs : sn = 0 ∨ (sn : Int) = b) (hf : SumsAt w sa sn f) (hb : ∀ i, i < sn → 0 ≤ f i ∧ f i ≤ 1048576) :
    Calls Try.prog 30 #[.agg #[.int .i64 k, .int .i64 l, .int .i64 v, .int .i64 b], .agg #[.int .i64 a, .int .i64 n, .slice sa sn sc, .slice ha hn hc], .int .i64 t] w fun e w' => e = .returned (.int .i64 (cntV b (a / sl) (t / sl) sn f)) ∧ Below w.heap.size w w' := by
  have N1 := Lib.hid (fun u => number_any k l v b sl t u h (by omega) t2)
  have N2 := Lib.hid (fun u => number_any k l v b sl a u h a1 (by omega))
  obtain ⟨_, _, v1, v2, b1, b2, s1, s2, _⟩ := h.bd
  obtain ⟨d0, d1⟩ := div_bd a1 s1
  obtain ⟨d2, d3⟩ := div_bd (show 0 ≤ t by omega) s1
  have d4 : a / sl ≤ t / sl := Int.ediv_le_ediv (by omega) t1
  have IA := Lib.hid (fun u q (hu : SumsAt u sa sn f) => in_any k l v b sl a n q sa ha sn sc hn hc u h a1 a2 f hs hu)
  have CB := Lib.hid (csum_bd (inV_bd (N := a / sl) b1 hs hb) (t / sl - b + 1))
  have IB := Lib.hid (inV_bd (N := a / sl) b1 hs hb)
  have HF := Lib.hid hf
  have HP := Lib.hid (PC.made w k l v b a n (.slice sa sn sc) (.slice ha hn hc) 23 27)
  have CV := Lib.hid (show csum (inV b (a / sl) sn f) (t / sl - b + 1) b.toNat = cntV b (a / sl) (t / sl) sn f from rfl)
  generalize cntV b (a / sl) (t / sl) sn f = RES at *
  generalize inV b (a / sl) sn f = g at *
  have hM : t / sl ≤ 2199023255552 := by omega
  clear h hs hf hb a1 a2 t1 t2 v1 v2 s1 s2
  generalize a / sl = N at *
  generalize t / sl = M at *
  have e1 : IntKind.i64.wrap (M - b) = M - b := wrap_i (by omega) (by omega)
  have e2 : IntKind.i64.wrap (M - b + 1) = M - b + 1 := wrap_i (by omega) (by omega)
  have e3 : IntKind.i64.wrap (N - b) = N - b := wrap_i (by omega) (by omega)
  have e4 : IntKind.i64.wrap (N - b + 1) = N - b + 1 := wrap_i (by omega) (by omega)
  have m1 : decide (M - b + 1 < N - b + 1) = false := by simp; omega
  have m2 : ¬ M - b + 1 < N - b + 1 := by omega
  obtain ⟨B, hB⟩ : ∃ B : Nat, b = (B : Int) := ⟨b.toNat, by omega⟩
  subst hB
  obtain ⟨Q, hQ⟩ : ∃ Q, M - (B : Int) + 1 = Q := ⟨_, rfl⟩
  have Q1 : Q + (B : Int) = M + 1 := by omega
  have Q2 : -16 ≤ Q := by omega
  have Q3 : Q ≤ 2199023255552 := by omega
  rw [hQ] at CB CV
  have HQ := Lib.hid hQ
  have HQ1 := Lib.hid Q1
  clear hQ Q1
  go_enter Try.func30, Try.ntmps30
  go_wp2_with fail
  refine (N1.out _).mono ?_; rintro e w1 ⟨rfl, hb⟩
  have H1 := Lib.hid (HP.out.step hb)
  clear hb HP
  go_upto_region 2 with (fail)
  go_cut [8] (fun s8 wx => s8 = .int .i64 Q ∧ PC w k l v (B : Int) a n (.slice sa sn sc) (.slice ha hn hc) wx)
  case first =>
    go_region_held3 (fun w' => w'.cell? ⟨w.heap.size, 0, none⟩ = some (.int .i64 k) ∧ w'.cell? ⟨w.heap.size, 1, none⟩ = some (.int .i64 l) ∧ w'.cell? ⟨w.heap.size, 2, none⟩ = some (.int .i64 v) ∧ w'.cell? ⟨w.heap.size, 3, none⟩ = some (.int .i64 (B : Int)) ∧ w'.cell? ⟨w.heap.size + 1, 0, none⟩ = some (.int .i64 a) ∧ w'.cell? ⟨w.heap.size + 1, 1, none⟩ = some (.int .i64 n) ∧ w'.cell? ⟨w.heap.size + 1, 2, none⟩ = some (.slice sa sn sc) ∧ w'.cell? ⟨w.heap.size + 1, 3, none⟩ = some (.slice ha hn hc)) (first | (with_reducible exact H1.out.drew.eight) | (with_reducible exact H2.out.eight) | go_keep) (first | (go_at_call 28; (with_reducible refine (N2.out _).mono ?_); rintro e w2 ⟨rfl, hb⟩; have H2 := Lib.hid (H1.out.drew.step hb); clear hb))
    all_goals (go_wp2_with fail; go_meet; exact ⟨by rw [← HQ.out], H2.out⟩)
  case rest =>
  obtain ⟨rfl, hz⟩ := hcut
  have H3 := Lib.hid hz
  clear hz H1 N1 N2 e1 e2 e3 e4 m1 m2
  go_wp2_with fail
  go_loopw [9, 10] (fun vn vq wr => ∃ i : Nat, i ≤ B ∧ vq = .int .i64 (Q + (i : Int)) ∧ vn = .int .i64 (csum g Q i) ∧ PC w k l v (B : Int) a n (.slice sa sn sc) (.slice ha hn hc) wr) (fun _ vq _ => (Q + (B : Int) - intOf vq).toNat)
  case atStart => exact ⟨0, Nat.zero_le _, by simp, rfl, H3.out⟩
  case round =>
    obtain ⟨i, hi, rfl, rfl, hr⟩ := hrel
    have R1 := Lib.hid hr
    clear hr H3
    obtain ⟨z0, z1, z2, z3, z4, z5, z6, z7⟩ := R1.out.eight
    obtain ⟨c1, c2⟩ := CB.out i
    by_cases hlt : i < B
    · have hq : Q + (i : Int) ≤ M := by have := HQ1.out; omega
      have IQ := Lib.hid (IA.out wr (Q + (i : Int)) (HF.out.below R1.out.be))
      obtain ⟨x1, x2⟩ := IB.out (Q + (i : Int))
      have HS := Lib.hid (show csum g Q (i + 1) = csum g Q i + g (Q + (i : Int)) from rfl)
      generalize g (Q + (i : Int)) = x at *
      generalize csum g Q i = c at *
      go_wp2_with fail
      refine IQ.out.mono ?_; rintro e w3 ⟨rfl, hb⟩
      have R2 := Lib.hid (R1.out.step hb)
      clear hb
      go_wp2_with fail
      go_roundw
      case rel => exact ⟨i + 1, by omega, by go_num, by rw [HS.out], R2.out⟩
      case measure => simp [intOf]; omega
    · have hq : ¬ Q + (i : Int) ≤ M := by have := HQ1.out; omega
      have E := Lib.hid (show csum g Q i = RES by rw [← CV.out, show i = B by omega]; rfl)
      generalize csum g Q i = c at *
      go_wp2_with fail
      go_ret
      exact ⟨ret_int E.out, R1.out.be⟩
end Go.Proofs.Ytbmjpfcnagodaaa
