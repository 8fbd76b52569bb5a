/- When no more than so much counts of hits: the contract of exact's fits, and the document's wait. -/
import Derived.Test.YtgdcgilhaedbmaaEx1
import Derived.BigQuiet
-- prune
namespace Go.Proofs.Ytgdcgilhaedbmaa
open Go.ChangeShapes Go.WideShapes Go.ChangeAt Go.RowKit
set_option linter.unusedVariables false

/-- The first place from the q-th on, of at most r, behind which no more than so much is left. -/
def kE (g : Nat → Int) (tot most : Int) : Nat → Nat → Nat
  | q, 0 => q
  | q, r + 1 => if tot - sumF g q ≤ most then q else kE g tot most (q + 1) r
/-- When the hits ahead of a place are gone. -/
def fstE (a v : Int) (f : Nat → Int) (i : Nat) : Int := if i = 0 then a else f (i - 1) + v
theorem PC.eight {w0 w : World} {k l v b a n : Int} {x y : Value} (h : PC w0 k l v b a n x y w) : w.cell? ⟨w0.heap.size, 0, none⟩ = some (.int .i64 k) ∧ w.cell? ⟨w0.heap.size, 1, none⟩ = some (.int .i64 l) ∧ w.cell? ⟨w0.heap.size, 2, none⟩ = some (.int .i64 v) ∧ w.cell? ⟨w0.heap.size, 3, none⟩ = some (.int .i64 b) ∧ w.cell? ⟨w0.heap.size + 1, 0, none⟩ = some (.int .i64 a) ∧ w.cell? ⟨w0.heap.size + 1, 1, none⟩ = some (.int .i64 n) ∧ w.cell? ⟨w0.heap.size + 1, 2, none⟩ = some x ∧ w.cell? ⟨w0.heap.size + 1, 3, none⟩ = some y :=
  ⟨h.p0, h.p1, h.p2, h.p3, h.c0, h.c1, h.c2, h.c3⟩
/-- .. and a hit in a block of its own. -/
structure PH (w0 : World) (k l v b a n : Int) (X Y : Value) (gH : Nat) (x y : Int) (w : World) : Prop where
  pc : PC w0 k l v b a n X Y w
  h : Has w gH 50 [.int .i64 x, .int .i64 y]
theorem PH.step {w0 w w' : World} {k l v b a n : Int} {X Y : Value} {gH : Nat} {x y : Int} (h : PH w0 k l v b a n X Y gH x y w) (hb : Below w.heap.size w w') : PH w0 k l v b a n X Y gH x y w' := ⟨h.pc.step hb, h.h.step hb⟩
theorem PH.drew {w0 w : World} {k l v b a n : Int} {X Y : Value} {gH : Nat} {x y : Int} (h : PH w0 k l v b a n X Y gH x y w) : PH w0 k l v b a n X Y gH x y w.drew := h.step (Below.refl _ _).drew
theorem PH.ten {w0 w : World} {k l v b a n : Int} {X Y : Value} {gH : Nat} {x y : Int} (h : PH w0 k l v b a n X Y gH x y w) : w.cell? ⟨w0.heap.size, 0, none⟩ = some (.int .i64 k) ∧ w.cell? ⟨w0.heap.size, 1, none⟩ = some (.int .i64 l) ∧ w.cell? ⟨w0.heap.size, 2, none⟩ = some (.int .i64 v) ∧ w.cell? ⟨w0.heap.size, 3, none⟩ = some (.int .i64 b) ∧ w.cell? ⟨gH, 0, none⟩ = some (.int .i64 x) ∧ w.cell? ⟨gH, 1, none⟩ = some (.int .i64 y) := ⟨h.pc.p0, h.pc.p1, h.pc.p2, h.pc.p3, h.h.cell 0, h.h.cell 1⟩
set_option maxRecDepth 100000 in
set_option maxHeartbeats 4000000 in
theorem fits_any (k l v b a most : Int) (sa ha : Option Addr) (sc n hc : Nat) (f g : Nat → Int) (w : World) (hh : HitsAt w ha n f g) (hf : ∀ i, i < n → 0 ≤ f i ∧ f i ≤ 1099511627776) (hg : ∀ i, i < n → 0 ≤ g i ∧ g i ≤ 1048576) (hn : n ≤ 64) (v1 : 1 ≤ v) (v2 : v ≤ 1048576) :
    Calls Try.prog 25 #[.agg #[.int .i64 k, .int .i64 l, .int .i64 v, .int .i64 b], .agg #[.int .i64 a, .int .i64 0, .slice sa 0 sc, .slice ha n hc], .int .i64 most] w fun e w' => e = .returned (.int .i64 (fstE a v f (kE g (sumF g n) most 0 n))) ∧ Below w.heap.size w w' := by
  have HH := Lib.hid hh
  have HF := Lib.hid hf
  have HG := Lib.hid hg
  have HB := Lib.hid (sumF_bd hg (Int.le_refl _))
  have TT := Lib.hid (fun u (hu : Below w.heap.size w u) => total_any ha n hc f g u (hh.below hu) hg hn)
  have GO := Lib.hid (fun x y u (x0 : 0 ≤ x) (x1 : x ≤ 1099511627776) => goes_any k l v b x y u (by omega) (by omega) (by omega) v2)
  obtain ⟨J, hJ⟩ : ∃ J, kE g (sumF g n) most 0 n = J := ⟨_, rfl⟩
  rw [hJ]
  have HJ := Lib.hid hJ
  obtain ⟨tb1, tb2⟩ := HB.out n (Nat.le_refl _)
  clear hh hf hg hJ
  generalize htot : sumF g n = tot at *
  clear htot
  have F0 := Lib.hid (show fstE a v f 0 = a from rfl)
  have HFrame9 := Lib.hid (fun i => (show fstE a v f (i + 1) = f i + v by unfold fstE; rw [if_neg (by omega)]; rfl))
  generalize hfst : fstE a v f = fst at *
  clear hfst
  have HP := Lib.hid (PC.made w k l v b a 0 (.slice sa 0 sc) (.slice ha n hc) 23 27)
  go_enter Try.func25, Try.ntmps25
  go_upto_region 1 with (fail)
  generalize (w.alloc (.cells #[.int .i64 k, .int .i64 l, .int .i64 v, .int .i64 b] 23)).alloc (.cells #[.int .i64 a, .int .i64 0, .slice sa 0 sc, .slice ha n hc] 27) = w0 at HP ⊢
  go_cut [7, 8] (fun s7 s8 wx => s7 = .int .i64 a ∧ s8 = .int .i64 tot ∧ PC w k l v b a 0 (.slice sa 0 sc) (.slice ha n hc) wx)
  case first =>
    go_region_held3 (fun w' => w'.cell? ⟨w.heap.size, 0, none⟩ = some (.int .i64 k) ∧ w'.cell? ⟨w.heap.size, 1, none⟩ = some (.int .i64 l) ∧ w'.cell? ⟨w.heap.size, 2, none⟩ = some (.int .i64 v) ∧ w'.cell? ⟨w.heap.size, 3, none⟩ = some (.int .i64 b) ∧ w'.cell? ⟨w.heap.size + 1, 0, none⟩ = some (.int .i64 a) ∧ w'.cell? ⟨w.heap.size + 1, 1, none⟩ = some (.int .i64 0) ∧ w'.cell? ⟨w.heap.size + 1, 2, none⟩ = some (.slice sa 0 sc) ∧ w'.cell? ⟨w.heap.size + 1, 3, none⟩ = some (.slice ha n hc)) (first | (with_reducible exact HP.out.eight) | (with_reducible exact HP.out.drew.eight) | (with_reducible exact R1.out.eight) | go_keep) (first | (go_at_call 27; (with_reducible refine (TT.out _ HP.out.drew.be).mono ?_); rintro e w2 ⟨rfl, hb⟩; have R1 := Lib.hid (HP.out.drew.step hb); clear hb))
    all_goals (go_wp2_with fail; go_meet; exact ⟨rfl, rfl, R1.out⟩)
  case rest =>
  obtain ⟨rfl, rfl, hz⟩ := hcut
  have R0 := Lib.hid hz
  clear hz HP TT
  obtain ⟨z0, z1, z2, z3, z4, z5, z6, z7⟩ := R0.out.eight
  go_wp2_with fail
  clear z0 z1 z2 z3 z4 z5 z6 z7
  go_loopw [7, 8, 19] (fun v7 v8 vi wr => ∃ i : Nat, i ≤ n ∧ vi = .int .i64 (i : Int) ∧ v7 = .int .i64 (fst i) ∧ v8 = .int .i64 (tot - sumF g i) ∧ Hid (kE g tot most i (n - i) = J) ∧ PC w k l v b a 0 (.slice sa 0 sc) (.slice ha n hc) wr) (fun _ _ vi _ => n - (intOf vi).toNat)
  case atStart => exact ⟨0, Nat.zero_le _, rfl, by rw [F0.out], by simp [sumF], HJ, R0.out⟩
  case round =>
    obtain ⟨i, hi, rfl, rfl, rfl, HK, hr⟩ := hrel
    have R1 := Lib.hid hr
    clear hr R0
    obtain ⟨c1, c2⟩ := HB.out i hi
    by_cases hlt : i < n
    · obtain ⟨b1, o1, rfl, hl, hc'⟩ := HH.out (by omega)
      obtain ⟨x1, x2⟩ := HG.out i hlt
      obtain ⟨y1, y2⟩ := HF.out i hlt
      have q1 := (R1.out.be.cell (p := ⟨b1, o1 + i * 2, none⟩) hl).trans (hc' i hlt).1
      have q2 := (R1.out.be.cell (p := ⟨b1, o1 + i * 2 + 1, none⟩) hl).trans (hc' i hlt).2
      have HS := Lib.hid (show sumF g (i + 1) = sumF g i + g i from rfl)
      have FN := Lib.hid (HFrame9.out i)
      have K1 := Lib.hid (fun (q : tot - sumF g i ≤ most) => (show i = J by rw [← HK.out, show n - i = (n - i - 1) + 1 by omega, kE, if_pos q]))
      have K2 := Lib.hid (fun (q : ¬ tot - sumF g i ≤ most) => (show kE g tot most (i + 1) (n - (i + 1)) = J by rw [← HK.out, show n - i = (n - (i + 1)) + 1 by omega, kE, if_neg q]))
      clear hc'
      have GX := Lib.hid (fun u => GO.out (f i) (g i) u y1 y2)
      generalize f i = y at *
      generalize g i = x at *
      generalize sumF g i = s at *
      have B0 : (0 : Int) ≤ (i : Int) := by omega
      have B1 : (i : Int) < (n : Int) := by omega
      have RH := Lib.hid (PH.mk (R1.out.alloc (.cells #[.int .i64 y, .int .i64 x] 50)) (Has.made wr 50 [.int .i64 y, .int .i64 x]))
      by_cases hm : tot - s ≤ most
      · have J1 := Lib.hid (K1.out hm)
        generalize hfi : fst i = fi at *
        have FI := Lib.hid hfi
        clear hfi
        go_wp2_with fail
        go_ret
        exact ⟨by rw [← FI.out, J1.out]; rfl, RH.out.pc.be⟩
      · have KN := Lib.hid (K2.out hm)
        have e1 : IntKind.i64.wrap (tot - s - x) = tot - s - x := wrap_i (by omega) (by omega)
        generalize hfi : fst i = fi at *
        clear hfi
        go_upto_region 6 with (fail)
        generalize hg1 : wr.alloc (.cells #[.int .i64 y, .int .i64 x] 50) = wh at RH ⊢
        generalize hg2 : wr.heap.size = gH at RH ⊢
        clear hg1 hg2 q1 q2
        go_region_held3 (fun w' => w'.cell? ⟨w.heap.size, 0, none⟩ = some (.int .i64 k) ∧ w'.cell? ⟨w.heap.size, 1, none⟩ = some (.int .i64 l) ∧ w'.cell? ⟨w.heap.size, 2, none⟩ = some (.int .i64 v) ∧ w'.cell? ⟨w.heap.size, 3, none⟩ = some (.int .i64 b) ∧ w'.cell? ⟨gH, 0, none⟩ = some (.int .i64 y) ∧ w'.cell? ⟨gH, 1, none⟩ = some (.int .i64 x)) (first | (with_reducible exact RH.out.ten) | (with_reducible exact RH.out.drew.ten) | (with_reducible exact R2.out.ten) | go_keep) (first | (go_at_call 34; (with_reducible refine (GX.out _).mono ?_); rintro e w2 ⟨rfl, hb⟩; have R2 := Lib.hid (RH.out.drew.step hb); clear hb))
        all_goals
          go_wp2_with fail
          go_roundw
          case rel => exact ⟨i + 1, by omega, by go_num, by rw [FN.out], by rw [HS.out]; congr 1; omega, KN, R2.out.pc⟩
          case measure => simp [intOf]; omega
    · have e : i = n := by omega
      subst e
      have J1 := Lib.hid (show i = J by rw [← HK.out, show i - i = 0 by omega, kE])
      generalize hfi : fst i = fi at *
      have FI := Lib.hid hfi
      clear hfi
      generalize sumF g i = s at *
      go_wp2_with fail
      go_ret
      exact ⟨by rw [← FI.out, J1.out]; rfl, R1.out.be⟩
end Go.Proofs.Ytgdcgilhaedbmaa
