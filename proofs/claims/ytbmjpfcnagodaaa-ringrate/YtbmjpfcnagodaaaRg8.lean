/- How long the document waits till no more than so much counts. WRITTEN BY gen_rg8.py. -/
import Derived.Test.YtbmjpfcnagodaaaRg7
import Derived.Deep.DeepCutAuto
-- prune
namespace Go.Proofs.Ytbmjpfcnagodaaa
open Go.ChangeShapes Go.WideShapes Go.ChangeAt Go.RowKit
set_option linter.unusedVariables false

/-- The first bucket from the q-th one on, of at most r, at which no more than so much counts; the one behind them, if there is none. -/
def firstK (C : Int → Int) (most M : Int) : Nat → Nat → Nat
  | q, 0 => q
  | q, r + 1 => if C (M + q) ≤ most then q else firstK C most M (q + 1) r
def waitV (C : Int → Int) (sl M b t most : Int) : Int := if C M ≤ most then 0 else sl * (M + (firstK C most M 1 (b.toNat - 1) : Nat)) - t
theorem slk_bd {sl t : Int} (hs : 1 ≤ sl) (hs2 : sl ≤ 1048576) (ht : 0 ≤ t) (q : Nat) (hq : q ≤ 16) (h1 : 1 ≤ q) : t < sl * (t / sl + q) ∧ sl * (t / sl + q) ≤ t + 16777216 ∧ sl * (t / sl + q) / sl = t / sl + q := by
  have q2 : sl * (t / sl) + t % sl = t := Int.mul_ediv_add_emod t sl
  have q3 : 0 ≤ t % sl := Int.emod_nonneg _ (by omega)
  have q4 : t % sl < sl := Int.emod_lt_of_pos _ (by omega)
  have q5 : sl * 1 ≤ sl * (q : Int) := Int.mul_le_mul_of_nonneg_left (by omega) (by omega)
  have q6 : sl * (q : Int) ≤ 1048576 * 16 := Int.mul_le_mul hs2 (by omega) (by omega) (by omega)
  rw [Int.mul_add]
  refine ⟨by omega, by omega, ?_⟩
  rw [← Int.mul_add, Int.mul_ediv_cancel_left _ (by omega)]
set_option maxRecDepth 100000 in
set_option maxHeartbeats 4000000 in
theorem wait_any (k l v b sl a t most : Int) (sa ha : Option Addr) (sn sc hc : Nat) (f : Nat → Int) (w : World) (h : RP k l v b sl) (a1 : 0 ≤ a) (a2 : a ≤ 1099511627776) (t1 : a ≤ t) (t2 : t ≤ 1099511627776) (hs : sn = 0 ∨ (sn : Int) = b) (hf : SumsAt w sa sn f) (hb : ∀ i, i < sn → 0 ≤ f i ∧ f i ≤ 1048576) :
    Calls Try.prog 31 #[.agg #[.int .i64 k, .int .i64 l, .int .i64 v, .int .i64 b], .agg #[.int .i64 a, .int .i64 0, .slice sa sn sc, .slice ha 0 hc], .int .i64 t, .int .i64 most] w fun e w' => e = .returned (.int .i64 (waitV (fun m => cntV b (a / sl) m sn f) sl (t / sl) b t most)) ∧ Below w.heap.size w w' := by
  have NB := Lib.hid (fun u => number_any k l v b sl t u h (by omega) (by omega))
  have CN := Lib.hid (fun x (h1 : a ≤ x) (h2 : x ≤ 2199023255552) u (hu : SumsAt u sa sn f) => counts_any k l v b sl a 0 x sa ha sn sc 0 hc f u h a1 a2 h1 h2 hs hu hb)
  obtain ⟨l1, l2, v1, v2, b1, b2, s1, s2, _⟩ := h.bd
  have hsl := h.s
  have SK := Lib.hid (fun q hq h1 => slk_bd s1 s2 (show 0 ≤ t by omega) q hq h1)
  have C0 := Lib.hid (CN.out t t1 (by omega))
  have HF := Lib.hid hf
  have CK := Lib.hid (fun (q : Nat) (h1 : 1 ≤ q) (h2 : q ≤ 16) => by
    obtain ⟨e1, e2, e3⟩ := SK.out q h2 h1
    have := CN.out (sl * (t / sl + q)) (by omega) (by omega)
    rw [e3] at this
    exact this)
  have D0 := div_bd (show 0 ≤ t by omega) s1
  obtain ⟨d0, d1⟩ := D0
  clear h hs hf hb CN
  obtain ⟨B, hB⟩ : ∃ B : Nat, b = (B : Int) := ⟨b.toNat, by omega⟩
  subst hB
  have HW := Lib.hid (show waitV (fun m => cntV (B : Int) (a / sl) m sn f) sl (t / sl) (B : Int) t most = if cntV (B : Int) (a / sl) (t / sl) sn f ≤ most then 0 else sl * (t / sl + (firstK (fun m => cntV (B : Int) (a / sl) m sn f) most (t / sl) 1 (B - 1) : Nat)) - t from rfl)
  generalize waitV (fun m => cntV (B : Int) (a / sl) m sn f) sl (t / sl) (B : Int) t most = RES at *
  have HP := Lib.hid (PC.made w k l v (B : Int) a 0 (.slice sa sn sc) (.slice ha 0 hc) 23 27)
  have e1 : v.tdiv (B : Int) = sl := by rw [tdiv_i (by omega)]; exact hsl
  have e2 : IntKind.i64.wrap sl = sl := wrap_i (by omega) (by omega)
  have bz : ((B : Int) == 0) = false := by simp; omega
  clear hsl
  obtain ⟨C, hC⟩ : ∃ C : Int → Int, (fun m => cntV (B : Int) (a / sl) m sn f) = C := ⟨_, rfl⟩
  have hC' : ∀ m, cntV (B : Int) (a / sl) m sn f = C m := fun m => by rw [← hC]
  simp only [hC'] at C0 CK HW
  generalize t / sl = M at *
  have HC0 := Lib.hid (fun u (hu : Below w.heap.size w u) => C0.out u (HF.out.below hu))
  have HCK := Lib.hid (fun q h1 h2 u (hu : Below w.heap.size w u) => CK.out q h1 h2 u (HF.out.below hu))
  clear C0 CK HF hC hC'
  by_cases h0 : C M ≤ most
  · have E := Lib.hid (show (0 : Int) = RES by rw [HW.out, if_pos h0])
    clear HW
    generalize C M = c at *
    go_enter Try.func31, Try.ntmps31
    go_wp2_with fail
    refine (HC0.out _ HP.out.be).mono ?_; rintro e w1 ⟨rfl, hb⟩
    have H1 := Lib.hid (HP.out.step hb)
    clear hb
    go_wp2_with fail
    go_ret
    exact ⟨ret_int E.out, H1.out.be⟩
  · have E := Lib.hid (show sl * (M + (firstK C most M 1 (B - 1) : Nat)) - t = RES by rw [HW.out, if_neg h0])
    clear HW
    generalize C M = c at h0 HC0
    go_enter Try.func31, Try.ntmps31
    go_wp2_with fail
    refine (HC0.out _ HP.out.be).mono ?_; rintro e w1 ⟨rfl, hb⟩
    have H1 := Lib.hid (HP.out.step hb)
    clear hb HP
    obtain ⟨z0, z1, z2, z3, z4, z5, z6, z7⟩ := H1.out.eight
    go_wp2_with fail
    clear e1 z0 z1 z2 z3 z4 z5 z6 z7
    go_loopw [10, 11] (fun vk _ wr => ∃ q : Nat, 1 ≤ q ∧ q ≤ B ∧ vk = .int .i64 (q : Int) ∧ Hid (firstK C most M q (B - q) = firstK C most M 1 (B - 1)) ∧ PC w k l v (B : Int) a 0 (.slice sa sn sc) (.slice ha 0 hc) wr) (fun vk _ _ => B - (intOf vk).toNat)
    case atStart => exact ⟨1, Nat.le_refl _, by omega, rfl, Lib.hid rfl, H1.out⟩
    case round =>
      obtain ⟨q, q1, q2, rfl, HK, hr⟩ := hrel
      have R1 := Lib.hid hr
      clear hr H1
      obtain ⟨z0, z1, z2, z3, z4, z5, z6, z7⟩ := R1.out.eight
      obtain ⟨x1, x2, x3⟩ := SK.out q (by omega) q1
      have e3 : IntKind.i64.wrap (sl * (M + (q : Int))) = sl * (M + (q : Int)) := wrap_i (by omega) (by omega)
      have e4 : IntKind.i64.wrap (M + (q : Int)) = M + (q : Int) := wrap_i (by omega) (by omega)
      by_cases hlt : q < B
      · have CQ := Lib.hid (HCK.out q q1 (by omega))
        clear x3
        obtain ⟨X, hX⟩ : ∃ X, sl * (M + (q : Int)) = X := ⟨_, rfl⟩
        have e3' : IntKind.i64.wrap (sl * (M + (q : Int))) = X := e3.trans hX
        rw [hX] at x1 x2 CQ
        clear e3
        have HX := Lib.hid hX
        clear hX
        by_cases hc : C (M + (q : Int)) ≤ most
        · have F := Lib.hid (show X - t = RES by
            rw [← E.out, ← HK.out, ← HX.out, show B - q = (B - q - 1) + 1 by omega, firstK, if_pos hc])
          generalize C (M + (q : Int)) = cq at *
          go_wp2_with fail
          refine (NB.out _).mono ?_; rintro e w2 ⟨rfl, hb⟩
          have R2 := Lib.hid (R1.out.step hb)
          clear hb z0 z1 z2 z3 z4 z5 z6 z7
          obtain ⟨z0, z1, z2, z3, z4, z5, z6, z7⟩ := R2.out.eight
          go_wp2_with fail
          refine (CQ.out _ R2.out.be).mono ?_; rintro e w3 ⟨rfl, hb⟩
          have R3 := Lib.hid (R2.out.step hb)
          clear hb
          go_wp2_with fail
          go_ret
          exact ⟨ret_int F.out, R3.out.be⟩
        · have F := Lib.hid (show firstK C most M (q + 1) (B - (q + 1)) = firstK C most M 1 (B - 1) by
            rw [← HK.out, show B - q = (B - (q + 1)) + 1 by omega, firstK, if_neg hc])
          generalize C (M + (q : Int)) = cq at hc CQ
          go_wp2_with fail
          refine (NB.out _).mono ?_; rintro e w2 ⟨rfl, hb⟩
          have R2 := Lib.hid (R1.out.step hb)
          clear hb z0 z1 z2 z3 z4 z5 z6 z7
          obtain ⟨z0, z1, z2, z3, z4, z5, z6, z7⟩ := R2.out.eight
          go_wp2_with fail
          refine (CQ.out _ R2.out.be).mono ?_; rintro e w3 ⟨rfl, hb⟩
          have R3 := Lib.hid (R2.out.step hb)
          clear hb
          go_wp2_with fail
          go_roundw
          case rel => exact ⟨q + 1, by omega, by omega, by go_num, F, R3.out⟩
          case measure => simp [intOf]; omega
      · have eq : q = B := by omega
        have F := Lib.hid (show sl * (M + (q : Int)) - t = RES by rw [← E.out, ← HK.out, show B - q = 0 by omega, firstK])
        subst eq
        have e5 : IntKind.i64.wrap (sl * (M + (q : Int)) - t) = sl * (M + (q : Int)) - t := wrap_i (by omega) (by omega)
        clear x3 HK
        go_wp2_with fail
        go_region_held3 (fun w' => w'.cell? ⟨w.heap.size, 0, none⟩ = some (.int .i64 k) ∧ w'.cell? ⟨w.heap.size, 1, none⟩ = some (.int .i64 l) ∧ w'.cell? ⟨w.heap.size, 2, none⟩ = some (.int .i64 v) ∧ w'.cell? ⟨w.heap.size, 3, none⟩ = some (.int .i64 (q : Int)) ∧ w'.cell? ⟨w.heap.size + 1, 0, none⟩ = some (.int .i64 a) ∧ w'.cell? ⟨w.heap.size + 1, 1, none⟩ = some (.int .i64 0) ∧ w'.cell? ⟨w.heap.size + 1, 2, none⟩ = some (.slice sa sn sc) ∧ w'.cell? ⟨w.heap.size + 1, 3, none⟩ = some (.slice ha 0 hc)) (first | (with_reducible exact R1.out.drew.eight) | (with_reducible exact R2.out.eight) | go_keep) (first | (go_at_call 28; (with_reducible refine (NB.out _).mono ?_); rintro e w2 ⟨rfl, hb⟩; have R2 := Lib.hid (R1.out.drew.step hb); clear hb))
        all_goals (go_wp2_with fail; go_ret; exact ⟨ret_int F.out, R2.out.be⟩)
end Go.Proofs.Ytbmjpfcnagodaaa
