/- The contract of the document's own Ask of a ring, done. WRITTEN BY gen_rg13.py. -/
import Derived.Test.YtbmjpfcnagodaaaRg12
-- prune
namespace Go.Proofs.Ytbmjpfcnagodaaa
open Go.ChangeShapes Go.WideShapes Go.ChangeAt Go.RowKit
set_option linter.unusedVariables false

/-- The sums behind i buckets. -/
def docL (b N q0 : Int) (sn : Nat) (f : Nat → Int) : Nat → Nat → Int
  | 0 => fun _ => 0
  | i + 1 => putF (docL b N q0 sn f i) ((q0 + i) % b).toNat (inV b N sn f (q0 + i))
theorem docL_at {b N M q0 : Int} {sn : Nat} {f : Nat → Int} (hb : 1 ≤ b) (h0 : 0 ≤ q0) (h1 : M - b < q0) (j : Nat) (hj : (j : Int) < b) (i : Nat) (hi : q0 + i ≤ M + 1) :
    docL b N q0 sn f i j = if q0 ≤ M - (M - j) % b ∧ M - (M - j) % b < q0 + i then inV b N sn f (M - (M - j) % b) else 0 := by
  have u0 : 0 ≤ (M - (j : Int)) % b := Int.emod_nonneg _ (by omega)
  have u1 : (M - (j : Int)) % b < b := Int.emod_lt_of_pos _ (by omega)
  have uj : (M - (M - (j : Int)) % b) % b = j := by
    rw [Int.sub_emod, Int.emod_emod_of_dvd _ (Int.dvd_refl b), ← Int.sub_emod, show M - (M - (j : Int)) = j by omega]
    exact Int.emod_eq_of_lt (by omega) (by omega)
  generalize (M - (j : Int)) % b = u at *
  induction i with
  | zero => rw [if_neg (by omega)]; rfl
  | succ i ih =>
    have m0 : 0 ≤ (q0 + (i : Int)) % b := Int.emod_nonneg _ (by omega)
    simp only [docL]
    unfold putF
    by_cases e : q0 + (i : Int) = M - u
    · rw [if_pos (by rw [e, uj]; rfl), if_pos (by omega), e]
    · rw [if_neg (fun h => e (mod_uni hb (by rw [uj]; omega) (by omega) (by omega))), ih (by omega)]
      by_cases c : q0 ≤ M - u ∧ M - u < q0 + i
      · rw [if_pos c, if_pos (by omega)]
      · rw [if_neg c, if_neg (by omega)]
theorem docL_all {b N M q0 : Int} {sn : Nat} {f : Nat → Int} (hb : 1 ≤ b) (hM : 0 ≤ M) (hq : q0 = if M - b + 1 ≤ 0 then 0 else M - b + 1) (i : Nat) (hi : q0 + i = M + 1) (j : Nat) (hj : (j : Int) < b) : docL b N q0 sn f i j = turnV b N M sn f j := by
  rw [docL_at (M := M) hb (by split at hq <;> omega) (by split at hq <;> omega) j hj i (by omega)]
  have u0 : 0 ≤ (M - (j : Int)) % b := Int.emod_nonneg _ (by omega)
  have u1 : (M - (j : Int)) % b < b := Int.emod_lt_of_pos _ (by omega)
  unfold turnV
  generalize (M - (j : Int)) % b = u at *
  by_cases c : q0 ≤ M - u
  · rw [if_pos ⟨c, by omega⟩]
  · rw [if_neg (by omega)]
    unfold inV
    rw [if_pos (.inl (by split at hq <;> omega))]
/-- The policy, the cell, the new cell with its sums, and the two results. -/
structure LoopS (w0 : World) (k l v a T : Int) (B : Nat) (x y : Value) (f : Nat → Int) (gD gS : Nat) (w : World) : Prop where
  p : Has w w0.heap.size 23 [.int .i64 k, .int .i64 l, .int .i64 v, .int .i64 (B : Int)]
  c : Has w (w0.heap.size + 1) 27 [.int .i64 a, .int .i64 0, x, y]
  rc : Has w (w0.heap.size + 1 + 1) 27 [.int .i64 0, .int .i64 0, .slice none 0 0, .slice none 0 0]
  rv : Has w (w0.heap.size + 1 + 1 + 1) 32 [.bool false, .int .i64 0, .int .i64 0, .int .i64 0]
  d : Has w gD 27 [.int .i64 T, .int .i64 0, .slice (some ⟨gS, 0, none⟩) B B, .slice none 0 0]
  s : Has w gS 3 (rowF .i64 f B)
  n1 : gD ≠ gS
  b1 : w0.heap.size + 1 + 1 + 1 < gD
  b2 : w0.heap.size + 1 + 1 + 1 < gS
  be : Below w0.heap.size w0 w
section
variable {w0 w w' : World} {k l v a T : Int} {B : Nat} {x y : Value} {f : Nat → Int} {gD gS : Nat}
theorem LoopS.step (h : LoopS w0 k l v a T B x y f gD gS w) (hb : Below w.heap.size w w') : LoopS w0 k l v a T B x y f gD gS w' :=
  ⟨h.p.step hb, h.c.step hb, h.rc.step hb, h.rv.step hb, h.d.step hb, h.s.step hb, h.n1, h.b1, h.b2, h.be.trans (hb.mono h.be.size)⟩
theorem LoopS.drew (h : LoopS w0 k l v a T B x y f gD gS w) : LoopS w0 k l v a T B x y f gD gS w.drew := h.step (Below.refl _ _).drew
theorem LoopS.putS (h : LoopS w0 k l v a T B x y f gD gS w) (j : Nat) (u : Int) : LoopS w0 k l v a T B x y (putF f j u) gD gS (w.setCell ⟨gS, j, none⟩ (.int .i64 u)) := by
  have q1 := h.b1
  have q2 := h.b2
  have hs := h.s.store j (.int .i64 u)
  rw [rowF_set] at hs
  exact ⟨h.p.apart (p := ⟨gS, j, none⟩) (show w0.heap.size ≠ gS by omega) _, h.c.apart (p := ⟨gS, j, none⟩) (show w0.heap.size + 1 ≠ gS by omega) _, h.rc.apart (p := ⟨gS, j, none⟩) (show w0.heap.size + 1 + 1 ≠ gS by omega) _, h.rv.apart (p := ⟨gS, j, none⟩) (show w0.heap.size + 1 + 1 + 1 ≠ gS by omega) _, h.d.apart (p := ⟨gS, j, none⟩) (show gD ≠ gS from h.n1) _, hs, h.n1, q1, q2, h.be.setCell (p := ⟨gS, j, none⟩) (show w0.heap.size ≤ gS by omega) _⟩
theorem LoopS.twelve (h : LoopS w0 k l v a T B x y f gD gS w) : (w.cell? ⟨w0.heap.size, 0, none⟩ = some (.int .i64 k) ∧ w.cell? ⟨w0.heap.size, 1, none⟩ = some (.int .i64 l) ∧ w.cell? ⟨w0.heap.size, 2, none⟩ = some (.int .i64 v) ∧ w.cell? ⟨w0.heap.size, 3, none⟩ = some (.int .i64 (B : Int))) ∧ (w.cell? ⟨w0.heap.size + 1, 0, none⟩ = some (.int .i64 a) ∧ w.cell? ⟨w0.heap.size + 1, 1, none⟩ = some (.int .i64 0) ∧ w.cell? ⟨w0.heap.size + 1, 2, none⟩ = some (x) ∧ w.cell? ⟨w0.heap.size + 1, 3, none⟩ = some (y)) ∧ (w.cell? ⟨gD, 0, none⟩ = some (.int .i64 T) ∧ w.cell? ⟨gD, 1, none⟩ = some (.int .i64 0) ∧ w.cell? ⟨gD, 2, none⟩ = some (.slice (some ⟨gS, 0, none⟩) B B) ∧ w.cell? ⟨gD, 3, none⟩ = some (.slice none 0 0)) := ⟨h.p.four, h.c.four, h.d.four⟩
theorem LoopS.row (h : LoopS w0 k l v a T B x y f gD gS w) : SumsAt w (some ⟨gS, 0, none⟩) B f := sums_row h.s
theorem LoopS.congr {g : Nat → Int} (h : LoopS w0 k l v a T B x y f gD gS w) (e : ∀ i, i < B → f i = g i) : LoopS w0 k l v a T B x y g gD gS w :=
  ⟨h.p, h.c, h.rc, h.rv, h.d, by rw [← rowF_congr .i64 e]; exact h.s, h.n1, h.b1, h.b2, h.be⟩
/-- .. with the verdict's own block. -/
theorem LoopS.toS (h : LoopS w0 k l v a T B x y f gD gS w) (V : List Value) : AskS w0 k l v T B f gD gS w.heap.size V (w.alloc (.cells V.toArray 32)) := by
  have l1 := h.d.lt
  have l2 := h.s.lt
  have l3 := h.rv.lt
  have bt : Below w.heap.size w (w.alloc (.cells V.toArray 32)) := (Below.refl _ _).alloc (Nat.le_refl _) _
  exact ⟨h.p.step bt, h.rc.step bt, h.rv.step bt, h.d.step bt, h.s.step bt, Has.made w 32 V, h.n1, by omega, by omega, h.b1, h.b2, l3, h.be.trans (bt.mono h.be.size)⟩
end
/-- Behind the new cell's blocks. -/
theorem AskAt.toL {w0 w : World} {k l v a T : Int} {B : Nat} {x y : Value} (h : AskAt w0 k l v (B : Int) a 0 x y w) (hc : Has w (w0.heap.size + 1) 27 [.int .i64 a, .int .i64 0, x, y]) :
    LoopS w0 k l v a T B x y (fun _ => 0) (w.heap.size + 1) w.heap.size ((w.alloc (.cells (rowF .i64 (fun _ => 0) B).toArray 3)).alloc (.cells #[.int .i64 T, .int .i64 0, .slice (some ⟨w.heap.size, 0, none⟩) B B, .slice none 0 0] 27)) := by
  have l3 := h.rv.lt
  have bt : Below w.heap.size w ((w.alloc (.cells (rowF .i64 (fun _ => 0) B).toArray 3)).alloc (.cells #[.int .i64 T, .int .i64 0, .slice (some ⟨w.heap.size, 0, none⟩) B B, .slice none 0 0] 27)) := ((Below.refl _ _).alloc (Nat.le_refl _) _).alloc (by simp) _
  exact ⟨h.p.step bt, hc.step bt, h.rc.step bt, h.rv.step bt, made2 w 27 3 [.int .i64 T, .int .i64 0, .slice (some ⟨w.heap.size, 0, none⟩) B B, .slice none 0 0] _, made1 w 3 (rowF .i64 (fun _ => 0) B) _, by omega, by omega, by omega, h.pc.be.trans (bt.mono h.pc.be.size)⟩

set_option maxRecDepth 100000 in
set_option maxHeartbeats 4000000 in
theorem rAsk_al (k l v sl a t m T : Int) (sa ha : Option Addr) (sn sc hc B : Nat) (f : Nat → Int) (w : World) (h : RP k l v (B : Int) sl) (a1 : 0 ≤ a) (a2 : a ≤ 1099511627776) (hm : MaySums l (B : Int) (a / sl) sn f) (hf : SumsAt w sa sn f) (t1 : 0 ≤ t) (t2 : t ≤ 1099511627776) (m1 : 1 ≤ m) (m2 : m ≤ 1048576) (hT : tmax t a = T) (hq : cntV (B : Int) (T / sl) (T / sl) B (turnV (B : Int) (a / sl) (T / sl) sn f) + m ≤ l) :
    Calls Try.prog 11 #[.agg #[.int .i64 k, .int .i64 l, .int .i64 v, .int .i64 (B : Int)], .agg #[.int .i64 a, .int .i64 0, .slice sa sn sc, .slice ha 0 hc], .int .i64 t, .int .i64 m] w (RTold T B (putF (turnV (B : Int) (a / sl) (T / sl) sn f) (T / sl % (B : Int)).toNat ((turnV (B : Int) (a / sl) (T / sl) sn f) (T / sl % (B : Int)).toNat + m)) true (l - cntV (B : Int) (T / sl) (T / sl) B (putF (turnV (B : Int) (a / sl) (T / sl) sn f) (T / sl % (B : Int)).toNat ((turnV (B : Int) (a / sl) (T / sl) sn f) (T / sl % (B : Int)).toNat + m))) (0) (waitV (fun q => cntV (B : Int) (T / sl) q B (putF (turnV (B : Int) (a / sl) (T / sl) sn f) (T / sl % (B : Int)).toNat ((turnV (B : Int) (a / sl) (T / sl) sn f) (T / sl % (B : Int)).toNat + m))) sl (T / sl) (B : Int) T 0) w) := by
  obtain ⟨l1, l2, v1, v2, b1, b2, s1, s2, _⟩ := h.bd
  obtain ⟨d0, d1⟩ := div_bd a1 s1
  have tb : a ≤ T ∧ T ≤ 1099511627776 := by rw [← hT]; unfold tmax; split <;> omega
  have tmm : (t < a ∧ T = a) ∨ (a ≤ t ∧ T = t) := by rw [← hT]; unfold tmax; split <;> omega
  obtain ⟨tb1, tb2⟩ := tb
  have hdt : a / sl ≤ T / sl := Int.ediv_le_ediv (by omega) tb1
  obtain ⟨M0, M1⟩ := div_bd (show 0 ≤ T by omega) s1
  have mt := may_turn (B := B) b1 rfl hm (show 0 ≤ l by omega) hdt M0
  have MK := Lib.hid (fun u (hu : Below w.heap.size w u) => rMay_yes k l v (B : Int) sl a sa ha sn sc hc f u h a1 a2 hm (hf.below hu))
  have TK := Lib.hid (fun u => rTime_yes t u t1 t2)
  have WK := Lib.hid (fun u => rWeighs_yes m u m1 m2)
  have NT := Lib.hid (fun u => number_any k l v (B : Int) sl T u h (by omega) (by omega))
  have NA := Lib.hid (fun u => number_any k l v (B : Int) sl a u h (by omega) (by omega))
  have IA := Lib.hid (fun q u (hu : Below w.heap.size w u) => in_any k l v (B : Int) sl a 0 q sa ha sn sc 0 hc u h a1 a2 f hm.len (hf.below hu))
  have CN := Lib.hid (fun g u (hu : SumsAt u (some ⟨g, 0, none⟩) B (turnV (B : Int) (a / sl) (T / sl) sn f)) => counts_any k l v (B : Int) sl T 0 T (some ⟨g, 0, none⟩) none B B 0 0 (turnV (B : Int) (a / sl) (T / sl) sn f) u h (by omega) tb2 (Int.le_refl _) (by omega) mt.len hu (mt.bd l2))
  have mf : MaySums l (B : Int) (T / sl) B (putF (turnV (B : Int) (a / sl) (T / sl) sn f) (T / sl % (B : Int)).toNat ((turnV (B : Int) (a / sl) (T / sl) sn f) (T / sl % (B : Int)).toNat + m)) := may_put b1 rfl mt M0 (by omega) hq
  have W2 := Lib.hid (fun g u (hu : SumsAt u (some ⟨g, 0, none⟩) B (putF (turnV (B : Int) (a / sl) (T / sl) sn f) (T / sl % (B : Int)).toNat ((turnV (B : Int) (a / sl) (T / sl) sn f) (T / sl % (B : Int)).toNat + m))) => wait_any k l v (B : Int) sl T T 0 (some ⟨g, 0, none⟩) none B B 0 (putF (turnV (B : Int) (a / sl) (T / sl) sn f) (T / sl % (B : Int)).toNat ((turnV (B : Int) (a / sl) (T / sl) sn f) (T / sl % (B : Int)).toNat + m)) u h (by omega) tb2 (Int.le_refl _) tb2 mf.len hu (mf.bd l2))
  have c0 := cnt_nn (N := T / sl) (X := T / sl) b1 mt.len (fun i hi => (mt.each i hi).1)
  have c1 := cnt_le (X := T / sl) b1 mt (show 0 ≤ l by omega) (Int.le_refl _)
  have hcp : cntV (B : Int) (T / sl) (T / sl) B (putF (turnV (B : Int) (a / sl) (T / sl) sn f) (T / sl % (B : Int)).toNat ((turnV (B : Int) (a / sl) (T / sl) sn f) (T / sl % (B : Int)).toNat + m)) = cntV (B : Int) (T / sl) (T / sl) B (turnV (B : Int) (a / sl) (T / sl) sn f) + m := by
    have := cnt_put (b := (B : Int)) (m := m) (f := (turnV (B : Int) (a / sl) (T / sl) sn f)) b1 M0 (Int.le_refl (T / sl))
    rw [if_pos (by omega)] at this
    exact this
  have p0 : 0 ≤ T / sl % (B : Int) := Int.emod_nonneg _ (by omega)
  have p1 : T / sl % (B : Int) < (B : Int) := Int.emod_lt_of_pos _ (by omega)
  obtain ⟨r, hr⟩ : ∃ r : Nat, T / sl % (B : Int) = (r : Int) := ⟨(T / sl % (B : Int)).toNat, by omega⟩
  have hrr : (T / sl % (B : Int)).toNat = r := by omega
  have R0 : (0 : Int) ≤ (r : Int) := by omega
  have R1 : (r : Int) < (B : Int) := by omega
  have R2 : r < B := by omega
  rw [hrr] at hcp W2 ⊢
  have x0 := (mt.each r R2).1
  have x1 := (mt.each r R2).2.1
  have er : (T / sl).tmod (B : Int) = (r : Int) := by rw [tmod_i M0]; exact hr
  rw [hcp]
  clear p0 p1 hr hrr hcp
  have DL := Lib.hid (fun q0 hq i hi j hj => docL_all (N := a / sl) (sn := sn) (f := f) b1 M0 hq (q0 := q0) i hi j hj)
  clear mt mf
  generalize hf0 : (turnV (B : Int) (a / sl) (T / sl) sn f) = f0 at *
  clear hf0
  generalize hff : putF f0 r (f0 r + m) = ff at *
  have HFF := Lib.hid hff
  clear hff
  generalize waitV (fun q => cntV (B : Int) (T / sl) q B ff) sl (T / sl) (B : Int) T 0 = X2 at *
  generalize cntV (B : Int) (T / sl) (T / sl) B f0 = n at *
  have e1 : IntKind.i64.wrap (l - (n + m)) = l - (n + m) := wrap_i (by omega) (by omega)
  have e2 : IntKind.i64.wrap (n + m) = n + m := wrap_i (by omega) (by omega)
  have dq : decide (n + m ≤ l) = true := by simp; omega
  have e5 : IntKind.i64.wrap (f0 r + m) = f0 r + m := wrap_i (by omega) (by omega)
  have e7 : IntKind.i64.wrap (r : Int) = (r : Int) := wrap_i (by omega) (by omega)
  have hMle : T / sl ≤ 1099511627776 := by omega
  clear hf hm M1 d1
  generalize hM : T / sl = M at *
  generalize hN : a / sl = N at *
  clear hM hN
  obtain ⟨q0, hq0⟩ : ∃ q0 : Int, q0 = if M - (B : Int) + 1 ≤ 0 then 0 else M - (B : Int) + 1 := ⟨_, rfl⟩
  have Q0 : (M - (B : Int) + 1 ≤ 0 ∧ q0 = 0) ∨ (0 < M - (B : Int) + 1 ∧ q0 = M - (B : Int) + 1) := by
    rw [hq0]; split <;> omega
  have q00 : 0 ≤ q0 := by omega
  have q01 : M - (B : Int) + 1 ≤ q0 := by omega
  have q02 : q0 ≤ M := by omega
  have HQ0 := Lib.hid hq0
  have e6 : IntKind.i64.wrap (M - (B : Int)) = M - (B : Int) := wrap_i (by omega) (by omega)
  have e8 : IntKind.i64.wrap (M - (B : Int) + 1) = M - (B : Int) + 1 := wrap_i (by omega) (by omega)
  have mk := run_mkI B (by omega)
  clear hq0 h hT s1 s2 v1 v2
  have HP := Lib.hid (AskAt.made w k l v (B : Int) a 0 (.slice sa sn sc) (.slice ha 0 hc))
  have HC := Lib.hid (((made2 w 27 23 [.int .i64 a, .int .i64 0, .slice sa sn sc, .slice ha 0 hc] (.cells #[.int .i64 k, .int .i64 l, .int .i64 v, .int .i64 (B : Int)] 23)).alloc (.cells #[.int .i64 0, .int .i64 0, .slice none 0 0, .slice none 0 0] 27)).alloc (.cells #[.bool false, .int .i64 0, .int .i64 0, .int .i64 0] 32))
  go_enter Try.func11, Try.ntmps11
  go_wp2_with fail
  refine (MK.out _ HP.out.pc.be).mono ?_; rintro e w1 ⟨rfl, hb⟩
  have HQ := Lib.hid (HP.out.step hb)
  have HD := Lib.hid (HC.out.step hb)
  clear hb HP MK HC
  obtain ⟨z0, z1, z2, z3, z4, z5, z6, z7⟩ := HQ.out.pc.eight
  go_wp2_with fail
  refine (TK.out _).mono ?_; rintro e w' ⟨rfl, rfl⟩
  go_wp2_with fail
  refine (WK.out _).mono ?_; rintro e w' ⟨rfl, rfl⟩
  go_upto_region 3 with (fail)
  go_cut [2] (fun s2 wx => s2 = .int .i64 T ∧ wx = w1)
  case first =>
    rcases tmm with ⟨q1, q2⟩ | ⟨q1, q2⟩
    · go_upto_region 4 with (fail)
      all_goals (go_meet; exact ⟨by rw [q2], rfl⟩)
    · go_upto_region 4 with (fail)
      all_goals (go_meet; exact ⟨by rw [q2], rfl⟩)
  case rest =>
  obtain ⟨rfl, rfl⟩ := hcut
  clear tmm
  go_wp2_with fail
  refine (NT.out _).mono ?_; rintro e w2 ⟨rfl, hb⟩
  have HE := Lib.hid (HQ.out.step hb)
  have HG := Lib.hid (HD.out.step hb)
  clear hb HQ HD NT z0 z1 z2 z3 z4 z5 z6 z7
  obtain ⟨z0, z1, z2, z3, z4, z5, z6, z7⟩ := HE.out.pc.eight
  go_upto_region 6 with (fail)
  clear z0 z1 z2 z3 z4 z5 z6 z7 mk
  have hz := AskAt.toL (T := T) HE.out HG.out
  clear HE HG
  generalize hw : (w2.alloc (.cells (rowF .i64 (fun _ => 0) B).toArray 3)).alloc (.cells #[.int .i64 T, .int .i64 0, .slice (some ⟨w2.heap.size, 0, none⟩) B B, .slice none 0 0] 27) = wz at hz ⊢
  clear hw
  generalize w2.heap.size + 1 = gD at hz ⊢
  generalize w2.heap.size = gS at hz ⊢
  have H0 := Lib.hid hz
  clear hz
  go_cut [12] (fun s12 wx => s12 = .int .i64 q0 ∧ wx = wz)
  case first =>
    obtain ⟨⟨j0, j1, j2, j3⟩, ⟨j4, j5, j6, j7⟩, j8, j9, j10, j11⟩ := H0.out.twelve
    rcases Q0 with ⟨q1, q2⟩ | ⟨q1, q2⟩
    · go_wp2_with fail
      all_goals (go_meet; exact ⟨by rw [q2], rfl⟩)
    · go_wp2_with fail
      all_goals (go_meet; exact ⟨by rw [q2], rfl⟩)
  case rest =>
  obtain ⟨rfl, rfl⟩ := hcut
  clear Q0 e6 e8
  go_wp2_with fail
  go_loopw [12] (fun vq wr => ∃ i : Nat, q0 + (i : Int) ≤ M + 1 ∧ vq = .int .i64 (q0 + (i : Int)) ∧ LoopS w k l v a T B (.slice sa sn sc) (.slice ha 0 hc) (docL (B : Int) N q0 sn f i) gD gS wr) (fun vq _ => (M + 1 - intOf vq).toNat)
  case atStart => exact ⟨0, by omega, by simp, H0.out⟩
  case round =>
    obtain ⟨i, hi, rfl, hr⟩ := hrel
    have R1 := Lib.hid hr
    clear hr H0
    by_cases hlt : q0 + (i : Int) ≤ M
    · have pz0 : 0 ≤ (q0 + (i : Int)) % (B : Int) := Int.emod_nonneg _ (by omega)
      have pz1 : (q0 + (i : Int)) % (B : Int) < (B : Int) := Int.emod_lt_of_pos _ (by omega)
      obtain ⟨rr, hrr⟩ : ∃ rr : Nat, (q0 + (i : Int)) % (B : Int) = (rr : Int) := ⟨((q0 + (i : Int)) % (B : Int)).toNat, by omega⟩
      have HS := Lib.hid (show docL (B : Int) N q0 sn f (i + 1) = putF (docL (B : Int) N q0 sn f i) rr (inV (B : Int) N sn f (q0 + i)) by simp only [docL]; rw [hrr]; rfl)
      have et : (q0 + (i : Int)).tmod (B : Int) = (rr : Int) := by rw [tmod_i (by omega)]; exact hrr
      have ew : IntKind.i64.wrap (rr : Int) = (rr : Int) := wrap_i (by omega) (by omega)
      have ew2 : IntKind.i64.wrap (N - (B : Int)) = N - (B : Int) := wrap_i (by omega) (by omega)
      have bz : ((B : Int) == 0) = false := by simp; omega
      have bn : ¬ (B : Int) = 0 := by omega
      have bn2 : ¬ B = 0 := by omega
      have bz2 : (B == 0) = false := by simp; omega
      have BB0 : (0 : Int) ≤ (rr : Int) := by omega
      have BB1 : (rr : Int) < (B : Int) := by omega
      have BB2 : rr < B := by omega
      have tt : decide (N - (B : Int) < q0 + (i : Int)) = true := by simp; omega
      have tt2 : N - (B : Int) < q0 + (i : Int) := by omega
      have IQ := Lib.hid (IA.out (q0 + (i : Int)))
      clear hrr pz0 pz1
      generalize inV (B : Int) N sn f (q0 + i) = X at *
      generalize docL (B : Int) N q0 sn f i = fd at *
      go_upto_region 9 with (fail)
      go_cut [62] from 49 to 73 (fun s62 wx => s62 = .bool true ∧ LoopS w k l v a T B (.slice sa sn sc) (.slice ha 0 hc) fd gD gS wx)
      case first =>
        go_region_held3 (fun w' => (w'.cell? ⟨w.heap.size, 0, none⟩ = some (.int .i64 k) ∧ w'.cell? ⟨w.heap.size, 1, none⟩ = some (.int .i64 l) ∧ w'.cell? ⟨w.heap.size, 2, none⟩ = some (.int .i64 v) ∧ w'.cell? ⟨w.heap.size, 3, none⟩ = some (.int .i64 (B : Int))) ∧ (w'.cell? ⟨w.heap.size + 1, 0, none⟩ = some (.int .i64 a) ∧ w'.cell? ⟨w.heap.size + 1, 1, none⟩ = some (.int .i64 0) ∧ w'.cell? ⟨w.heap.size + 1, 2, none⟩ = some (.slice sa sn sc) ∧ w'.cell? ⟨w.heap.size + 1, 3, none⟩ = some (.slice ha 0 hc)) ∧ (w'.cell? ⟨gD, 0, none⟩ = some (.int .i64 T) ∧ w'.cell? ⟨gD, 1, none⟩ = some (.int .i64 0) ∧ w'.cell? ⟨gD, 2, none⟩ = some (.slice (some ⟨gS, 0, none⟩) B B) ∧ w'.cell? ⟨gD, 3, none⟩ = some (.slice none 0 0))) (first | (with_reducible exact R1.out.twelve) | (with_reducible exact R1.out.drew.twelve) | (with_reducible exact H5.out.twelve) | (with_reducible exact (H5.out.putS _ _).twelve) | go_keep) (first | (go_at_call 28; (with_reducible refine (NA.out _).mono ?_); rintro e w5 ⟨rfl, hb⟩; have H5 := Lib.hid (R1.out.drew.step hb); clear hb))
        all_goals (go_wp2_with fail; go_meet; exact ⟨rfl, H5.out⟩)
      case rest =>
      obtain ⟨rfl, hz⟩ := hcut
      have R2 := Lib.hid hz
      clear hz R1
      go_upto_region 10 with (fail)
      go_region_held3 (fun w' => (w'.cell? ⟨w.heap.size, 0, none⟩ = some (.int .i64 k) ∧ w'.cell? ⟨w.heap.size, 1, none⟩ = some (.int .i64 l) ∧ w'.cell? ⟨w.heap.size, 2, none⟩ = some (.int .i64 v) ∧ w'.cell? ⟨w.heap.size, 3, none⟩ = some (.int .i64 (B : Int))) ∧ (w'.cell? ⟨w.heap.size + 1, 0, none⟩ = some (.int .i64 a) ∧ w'.cell? ⟨w.heap.size + 1, 1, none⟩ = some (.int .i64 0) ∧ w'.cell? ⟨w.heap.size + 1, 2, none⟩ = some (.slice sa sn sc) ∧ w'.cell? ⟨w.heap.size + 1, 3, none⟩ = some (.slice ha 0 hc)) ∧ (w'.cell? ⟨gD, 0, none⟩ = some (.int .i64 T) ∧ w'.cell? ⟨gD, 1, none⟩ = some (.int .i64 0) ∧ w'.cell? ⟨gD, 2, none⟩ = some (.slice (some ⟨gS, 0, none⟩) B B) ∧ w'.cell? ⟨gD, 3, none⟩ = some (.slice none 0 0))) (first | (with_reducible exact R2.out.twelve) | (with_reducible exact R2.out.drew.twelve) | (with_reducible exact H6.out.twelve) | (with_reducible exact (H6.out.putS _ _).twelve) | go_keep) (first | (go_at_call 29; (with_reducible refine (IQ.out _ R2.out.drew.be).mono ?_); rintro e w6 ⟨rfl, hb⟩; have H6 := Lib.hid (R2.out.drew.step hb); have s0 := H6.out.s.loose; have s1 : w6.cell? ⟨gS, rr, none⟩ = some (.int .i64 (fd rr)) := (H6.out.s.cell rr).trans (rowF_get _ _ _ _ BB2); clear hb))
      all_goals
        have R3 := Lib.hid (H6.out.putS rr X)
        rw [← HS.out] at R3
        go_wp2_with fail
        go_roundw
        case rel => exact ⟨i + 1, by omega, by go_num, R3.out⟩
        case measure => simp [intOf]; omega
    · have hz := R1.out.congr (fun j hj => DL.out q0 HQ0.out i (by omega) j (by omega))
      have R2 := Lib.hid hz
      clear hz R1 IA NA
      obtain ⟨⟨j0, j1, j2, j3⟩, ⟨j4, j5, j6, j7⟩, j8, j9, j10, j11⟩ := R2.out.twelve
      go_wp2_with fail
      refine (CN.out gS _ R2.out.row).mono ?_; rintro e w7 ⟨rfl, hb⟩
      have R4 := Lib.hid (R2.out.step hb)
      clear hb R2 CN j0 j1 j2 j3 j4 j5 j6 j7 j8 j9 j10 j11
      obtain ⟨⟨j0, j1, j2, j3⟩, ⟨j4, j5, j6, j7⟩, j8, j9, j10, j11⟩ := R4.out.twelve
      go_upto_region 13 with (fail)
      have hz := R4.out.toS [.bool true, .int .i64 0, .int .i64 0, .int .i64 0]
      clear R4 j0 j1 j2 j3 j4 j5 j6 j7 j8 j9 j10 j11
      generalize hw : w7.alloc (.cells [.bool true, .int .i64 0, .int .i64 0, .int .i64 0].toArray 32) = wy at hz ⊢
      clear hw
      generalize w7.heap.size = gV at hz ⊢
      have H0 := Lib.hid hz
      clear hz
      have s0 : wy.cell? ⟨gS, r, none⟩ = some (.int .i64 (f0 r)) := (H0.out.s.cell r).trans (rowF_get _ _ _ _ R2)
      have s1 := H0.out.s.loose
      have bz : ((B : Int) == 0) = false := by simp; omega
      have bn : ¬ (B : Int) = 0 := by omega
      obtain ⟨⟨j0, j1, j2, j3⟩, j4, j5, j6, j7⟩ := H0.out.eight
      obtain ⟨u0, u1, u2, u3⟩ := H0.out.v.four
      have u4 := H0.out.v.loose
      go_upto_region 14 with (fail)
      go_cut [] (fun wx => AskS w k l v T B ff gD gS gV [.bool true, .int .i64 0, .int .i64 0, .int .i64 0] wx)
      case first =>
        go_region
        all_goals (go_upto_region 15 with (fail); go_meet; (have q := H0.out.putS r (f0 r + m)); rw [HFF.out] at q; first | exact q | exact q.drew)
      case rest =>
      have H1 := Lib.hid hcut
      clear hcut H0 s0 s1
      clear j0 j1 j2 j3 j4 j5 j6 j7 u0 u1 u2 u3 u4
      obtain ⟨⟨j0, j1, j2, j3⟩, j4, j5, j6, j7⟩ := H1.out.eight
      obtain ⟨u0, u1, u2, u3⟩ := H1.out.v.four
      have u4 := H1.out.v.loose
      go_upto_region 20 with (fail)
      clear j0 j1 j2 j3 j4 j5 j6 j7 u0 u1 u2 u3 u4
      have hz := H1.out.putV 1 (.int .i64 (l - (n + m)))
      replace hz : AskS w k l v T B ff gD gS gV [.bool true, .int .i64 (l - (n + m)), .int .i64 0, .int .i64 0] (wc.setCell ⟨gV, 1, none⟩ (.int .i64 (l - (n + m)))) := hz
      generalize wc.setCell ⟨gV, 1, none⟩ (.int .i64 (l - (n + m))) = wx at hz ⊢
      have H2 := Lib.hid hz
      clear hz H1
      obtain ⟨⟨j0, j1, j2, j3⟩, j4, j5, j6, j7⟩ := H2.out.eight
      obtain ⟨u0, u1, u2, u3⟩ := H2.out.v.four
      have u4 := H2.out.v.loose
      go_wp2_with fail
      refine (W2.out gS _ H2.out.row).mono ?_; rintro e w9 ⟨rfl, hb⟩
      have H3 := Lib.hid (H2.out.step hb)
      clear hb H2
      clear j0 j1 j2 j3 j4 j5 j6 j7 u0 u1 u2 u3 u4
      obtain ⟨⟨j0, j1, j2, j3⟩, j4, j5, j6, j7⟩ := H3.out.eight
      obtain ⟨u0, u1, u2, u3⟩ := H3.out.v.four
      have u4 := H3.out.v.loose
      go_upto_region 21 with (fail)
      clear j0 j1 j2 j3 j4 j5 j6 j7 u0 u1 u2 u3 u4
      have hz := H3.out.putV 3 (.int .i64 X2)
      replace hz : AskS w k l v T B ff gD gS gV [.bool true, .int .i64 (l - (n + m)), .int .i64 0, .int .i64 X2] (w9.setCell ⟨gV, 3, none⟩ (.int .i64 X2)) := hz
      generalize w9.setCell ⟨gV, 3, none⟩ (.int .i64 X2) = wv at hz ⊢
      have H8 := Lib.hid hz
      clear hz H3
      obtain ⟨⟨j0, j1, j2, j3⟩, j4, j5, j6, j7⟩ := H8.out.eight
      obtain ⟨u0, u1, u2, u3⟩ := H8.out.v.four
      obtain ⟨r0, r1, r2, r3, r4, r5, r6, r7, r8, r9⟩ := H8.out.res
      have g0 : gD ≠ w.heap.size + 1 + 1 := by have := H8.out.b1; omega
      have g1 : gD ≠ w.heap.size + 1 + 1 + 1 := by have := H8.out.b1; omega
      have g2 : gV ≠ w.heap.size + 1 + 1 := by have := H8.out.b3; omega
      have g3 : gV ≠ w.heap.size + 1 + 1 + 1 := by have := H8.out.b3; omega
      have g4 : gS ≠ w.heap.size + 1 + 1 := by have := H8.out.b2; omega
      have g5 : gS ≠ w.heap.size + 1 + 1 + 1 := by have := H8.out.b2; omega
      go_region
      all_goals go_wp2_with fail
      all_goals refine bodyPost_ret (v := .tuple #[.agg #[.int .i64 T, .int .i64 0, .slice (some ⟨gS, 0, none⟩) B B, .slice none 0 0], .agg #[.bool true, .int .i64 (l - (n + m)), .int .i64 0, .int .i64 X2]]) (by simp [results, Try.results11, go_sem, r0, r1, r2, r3, r4, r5, r6, r7]) rfl ⟨gS, rfl, by have := H8.out.b2; omega, ?_, ?_⟩
      all_goals repeat (first | with_reducible exact H8.out.be | with_reducible exact H8.out.s | with_reducible (refine Below.setCell ?_ (le3 _) _) | with_reducible (refine Below.setCell ?_ (le2 _) _) | with_reducible refine Below.drew ?_ | with_reducible refine has_drew ?_ | with_reducible (refine Has.apart ?_ g4 _) | with_reducible (refine Has.apart ?_ g5 _))

set_option maxRecDepth 100000 in
set_option maxHeartbeats 4000000 in
theorem rAsk_re (k l v sl a t m T : Int) (sa ha : Option Addr) (sn sc hc B : Nat) (f : Nat → Int) (w : World) (h : RP k l v (B : Int) sl) (a1 : 0 ≤ a) (a2 : a ≤ 1099511627776) (hm : MaySums l (B : Int) (a / sl) sn f) (hf : SumsAt w sa sn f) (t1 : 0 ≤ t) (t2 : t ≤ 1099511627776) (m1 : 1 ≤ m) (m2 : m ≤ 1048576) (hT : tmax t a = T) (hl : m ≤ l) (hq : l < cntV (B : Int) (T / sl) (T / sl) B (turnV (B : Int) (a / sl) (T / sl) sn f) + m) :
    Calls Try.prog 11 #[.agg #[.int .i64 k, .int .i64 l, .int .i64 v, .int .i64 (B : Int)], .agg #[.int .i64 a, .int .i64 0, .slice sa sn sc, .slice ha 0 hc], .int .i64 t, .int .i64 m] w (RTold T B (turnV (B : Int) (a / sl) (T / sl) sn f) false (l - cntV (B : Int) (T / sl) (T / sl) B (turnV (B : Int) (a / sl) (T / sl) sn f)) (waitV (fun q => cntV (B : Int) (T / sl) q B (turnV (B : Int) (a / sl) (T / sl) sn f)) sl (T / sl) (B : Int) T (l - m)) (waitV (fun q => cntV (B : Int) (T / sl) q B (turnV (B : Int) (a / sl) (T / sl) sn f)) sl (T / sl) (B : Int) T 0) w) := by
  obtain ⟨l1, l2, v1, v2, b1, b2, s1, s2, _⟩ := h.bd
  obtain ⟨d0, d1⟩ := div_bd a1 s1
  have tb : a ≤ T ∧ T ≤ 1099511627776 := by rw [← hT]; unfold tmax; split <;> omega
  have tmm : (t < a ∧ T = a) ∨ (a ≤ t ∧ T = t) := by rw [← hT]; unfold tmax; split <;> omega
  obtain ⟨tb1, tb2⟩ := tb
  have hdt : a / sl ≤ T / sl := Int.ediv_le_ediv (by omega) tb1
  obtain ⟨M0, M1⟩ := div_bd (show 0 ≤ T by omega) s1
  have mt := may_turn (B := B) b1 rfl hm (show 0 ≤ l by omega) hdt M0
  have MK := Lib.hid (fun u (hu : Below w.heap.size w u) => rMay_yes k l v (B : Int) sl a sa ha sn sc hc f u h a1 a2 hm (hf.below hu))
  have TK := Lib.hid (fun u => rTime_yes t u t1 t2)
  have WK := Lib.hid (fun u => rWeighs_yes m u m1 m2)
  have NT := Lib.hid (fun u => number_any k l v (B : Int) sl T u h (by omega) (by omega))
  have NA := Lib.hid (fun u => number_any k l v (B : Int) sl a u h (by omega) (by omega))
  have IA := Lib.hid (fun q u (hu : Below w.heap.size w u) => in_any k l v (B : Int) sl a 0 q sa ha sn sc 0 hc u h a1 a2 f hm.len (hf.below hu))
  have CN := Lib.hid (fun g u (hu : SumsAt u (some ⟨g, 0, none⟩) B (turnV (B : Int) (a / sl) (T / sl) sn f)) => counts_any k l v (B : Int) sl T 0 T (some ⟨g, 0, none⟩) none B B 0 0 (turnV (B : Int) (a / sl) (T / sl) sn f) u h (by omega) tb2 (Int.le_refl _) (by omega) mt.len hu (mt.bd l2))
  have mf : MaySums l (B : Int) (T / sl) B (turnV (B : Int) (a / sl) (T / sl) sn f) := mt
  have W2 := Lib.hid (fun g u (hu : SumsAt u (some ⟨g, 0, none⟩) B (turnV (B : Int) (a / sl) (T / sl) sn f)) => wait_any k l v (B : Int) sl T T 0 (some ⟨g, 0, none⟩) none B B 0 (turnV (B : Int) (a / sl) (T / sl) sn f) u h (by omega) tb2 (Int.le_refl _) tb2 mf.len hu (mf.bd l2))
  have c0 := cnt_nn (N := T / sl) (X := T / sl) b1 mt.len (fun i hi => (mt.each i hi).1)
  have c1 := cnt_le (X := T / sl) b1 mt (show 0 ≤ l by omega) (Int.le_refl _)
  have W1 := Lib.hid (fun g u (hu : SumsAt u (some ⟨g, 0, none⟩) B (turnV (B : Int) (a / sl) (T / sl) sn f)) => wait_any k l v (B : Int) sl T T (l - m) (some ⟨g, 0, none⟩) none B B 0 (turnV (B : Int) (a / sl) (T / sl) sn f) u h (by omega) tb2 (Int.le_refl _) tb2 mt.len hu (mt.bd l2))
  have DL := Lib.hid (fun q0 hq i hi j hj => docL_all (N := a / sl) (sn := sn) (f := f) b1 M0 hq (q0 := q0) i hi j hj)
  clear mt mf
  generalize hf0 : (turnV (B : Int) (a / sl) (T / sl) sn f) = f0 at *
  clear hf0
  generalize waitV (fun q => cntV (B : Int) (T / sl) q B f0) sl (T / sl) (B : Int) T (l - m) = X1 at *
  generalize waitV (fun q => cntV (B : Int) (T / sl) q B f0) sl (T / sl) (B : Int) T 0 = X2 at *
  generalize cntV (B : Int) (T / sl) (T / sl) B f0 = n at *
  have e1 : IntKind.i64.wrap (l - n) = l - n := wrap_i (by omega) (by omega)
  have e2 : IntKind.i64.wrap (n + m) = n + m := wrap_i (by omega) (by omega)
  have dq : decide (n + m ≤ l) = false := by simp; omega
  have e4 : IntKind.i64.wrap (l - m) = l - m := wrap_i (by omega) (by omega)
  have hMle : T / sl ≤ 1099511627776 := by omega
  clear hf hm M1 d1
  generalize hM : T / sl = M at *
  generalize hN : a / sl = N at *
  clear hM hN
  obtain ⟨q0, hq0⟩ : ∃ q0 : Int, q0 = if M - (B : Int) + 1 ≤ 0 then 0 else M - (B : Int) + 1 := ⟨_, rfl⟩
  have Q0 : (M - (B : Int) + 1 ≤ 0 ∧ q0 = 0) ∨ (0 < M - (B : Int) + 1 ∧ q0 = M - (B : Int) + 1) := by
    rw [hq0]; split <;> omega
  have q00 : 0 ≤ q0 := by omega
  have q01 : M - (B : Int) + 1 ≤ q0 := by omega
  have q02 : q0 ≤ M := by omega
  have HQ0 := Lib.hid hq0
  have e6 : IntKind.i64.wrap (M - (B : Int)) = M - (B : Int) := wrap_i (by omega) (by omega)
  have e8 : IntKind.i64.wrap (M - (B : Int) + 1) = M - (B : Int) + 1 := wrap_i (by omega) (by omega)
  have mk := run_mkI B (by omega)
  clear hq0 h hT s1 s2 v1 v2
  have HP := Lib.hid (AskAt.made w k l v (B : Int) a 0 (.slice sa sn sc) (.slice ha 0 hc))
  have HC := Lib.hid (((made2 w 27 23 [.int .i64 a, .int .i64 0, .slice sa sn sc, .slice ha 0 hc] (.cells #[.int .i64 k, .int .i64 l, .int .i64 v, .int .i64 (B : Int)] 23)).alloc (.cells #[.int .i64 0, .int .i64 0, .slice none 0 0, .slice none 0 0] 27)).alloc (.cells #[.bool false, .int .i64 0, .int .i64 0, .int .i64 0] 32))
  go_enter Try.func11, Try.ntmps11
  go_wp2_with fail
  refine (MK.out _ HP.out.pc.be).mono ?_; rintro e w1 ⟨rfl, hb⟩
  have HQ := Lib.hid (HP.out.step hb)
  have HD := Lib.hid (HC.out.step hb)
  clear hb HP MK HC
  obtain ⟨z0, z1, z2, z3, z4, z5, z6, z7⟩ := HQ.out.pc.eight
  go_wp2_with fail
  refine (TK.out _).mono ?_; rintro e w' ⟨rfl, rfl⟩
  go_wp2_with fail
  refine (WK.out _).mono ?_; rintro e w' ⟨rfl, rfl⟩
  go_upto_region 3 with (fail)
  go_cut [2] (fun s2 wx => s2 = .int .i64 T ∧ wx = w1)
  case first =>
    rcases tmm with ⟨q1, q2⟩ | ⟨q1, q2⟩
    · go_upto_region 4 with (fail)
      all_goals (go_meet; exact ⟨by rw [q2], rfl⟩)
    · go_upto_region 4 with (fail)
      all_goals (go_meet; exact ⟨by rw [q2], rfl⟩)
  case rest =>
  obtain ⟨rfl, rfl⟩ := hcut
  clear tmm
  go_wp2_with fail
  refine (NT.out _).mono ?_; rintro e w2 ⟨rfl, hb⟩
  have HE := Lib.hid (HQ.out.step hb)
  have HG := Lib.hid (HD.out.step hb)
  clear hb HQ HD NT z0 z1 z2 z3 z4 z5 z6 z7
  obtain ⟨z0, z1, z2, z3, z4, z5, z6, z7⟩ := HE.out.pc.eight
  go_upto_region 6 with (fail)
  clear z0 z1 z2 z3 z4 z5 z6 z7 mk
  have hz := AskAt.toL (T := T) HE.out HG.out
  clear HE HG
  generalize hw : (w2.alloc (.cells (rowF .i64 (fun _ => 0) B).toArray 3)).alloc (.cells #[.int .i64 T, .int .i64 0, .slice (some ⟨w2.heap.size, 0, none⟩) B B, .slice none 0 0] 27) = wz at hz ⊢
  clear hw
  generalize w2.heap.size + 1 = gD at hz ⊢
  generalize w2.heap.size = gS at hz ⊢
  have H0 := Lib.hid hz
  clear hz
  go_cut [12] (fun s12 wx => s12 = .int .i64 q0 ∧ wx = wz)
  case first =>
    obtain ⟨⟨j0, j1, j2, j3⟩, ⟨j4, j5, j6, j7⟩, j8, j9, j10, j11⟩ := H0.out.twelve
    rcases Q0 with ⟨q1, q2⟩ | ⟨q1, q2⟩
    · go_wp2_with fail
      all_goals (go_meet; exact ⟨by rw [q2], rfl⟩)
    · go_wp2_with fail
      all_goals (go_meet; exact ⟨by rw [q2], rfl⟩)
  case rest =>
  obtain ⟨rfl, rfl⟩ := hcut
  clear Q0 e6 e8
  go_wp2_with fail
  go_loopw [12] (fun vq wr => ∃ i : Nat, q0 + (i : Int) ≤ M + 1 ∧ vq = .int .i64 (q0 + (i : Int)) ∧ LoopS w k l v a T B (.slice sa sn sc) (.slice ha 0 hc) (docL (B : Int) N q0 sn f i) gD gS wr) (fun vq _ => (M + 1 - intOf vq).toNat)
  case atStart => exact ⟨0, by omega, by simp, H0.out⟩
  case round =>
    obtain ⟨i, hi, rfl, hr⟩ := hrel
    have R1 := Lib.hid hr
    clear hr H0
    by_cases hlt : q0 + (i : Int) ≤ M
    · have pz0 : 0 ≤ (q0 + (i : Int)) % (B : Int) := Int.emod_nonneg _ (by omega)
      have pz1 : (q0 + (i : Int)) % (B : Int) < (B : Int) := Int.emod_lt_of_pos _ (by omega)
      obtain ⟨rr, hrr⟩ : ∃ rr : Nat, (q0 + (i : Int)) % (B : Int) = (rr : Int) := ⟨((q0 + (i : Int)) % (B : Int)).toNat, by omega⟩
      have HS := Lib.hid (show docL (B : Int) N q0 sn f (i + 1) = putF (docL (B : Int) N q0 sn f i) rr (inV (B : Int) N sn f (q0 + i)) by simp only [docL]; rw [hrr]; rfl)
      have et : (q0 + (i : Int)).tmod (B : Int) = (rr : Int) := by rw [tmod_i (by omega)]; exact hrr
      have ew : IntKind.i64.wrap (rr : Int) = (rr : Int) := wrap_i (by omega) (by omega)
      have ew2 : IntKind.i64.wrap (N - (B : Int)) = N - (B : Int) := wrap_i (by omega) (by omega)
      have bz : ((B : Int) == 0) = false := by simp; omega
      have bn : ¬ (B : Int) = 0 := by omega
      have bn2 : ¬ B = 0 := by omega
      have bz2 : (B == 0) = false := by simp; omega
      have BB0 : (0 : Int) ≤ (rr : Int) := by omega
      have BB1 : (rr : Int) < (B : Int) := by omega
      have BB2 : rr < B := by omega
      have tt : decide (N - (B : Int) < q0 + (i : Int)) = true := by simp; omega
      have tt2 : N - (B : Int) < q0 + (i : Int) := by omega
      have IQ := Lib.hid (IA.out (q0 + (i : Int)))
      clear hrr pz0 pz1
      generalize inV (B : Int) N sn f (q0 + i) = X at *
      generalize docL (B : Int) N q0 sn f i = fd at *
      go_upto_region 9 with (fail)
      go_cut [62] from 49 to 73 (fun s62 wx => s62 = .bool true ∧ LoopS w k l v a T B (.slice sa sn sc) (.slice ha 0 hc) fd gD gS wx)
      case first =>
        go_region_held3 (fun w' => (w'.cell? ⟨w.heap.size, 0, none⟩ = some (.int .i64 k) ∧ w'.cell? ⟨w.heap.size, 1, none⟩ = some (.int .i64 l) ∧ w'.cell? ⟨w.heap.size, 2, none⟩ = some (.int .i64 v) ∧ w'.cell? ⟨w.heap.size, 3, none⟩ = some (.int .i64 (B : Int))) ∧ (w'.cell? ⟨w.heap.size + 1, 0, none⟩ = some (.int .i64 a) ∧ w'.cell? ⟨w.heap.size + 1, 1, none⟩ = some (.int .i64 0) ∧ w'.cell? ⟨w.heap.size + 1, 2, none⟩ = some (.slice sa sn sc) ∧ w'.cell? ⟨w.heap.size + 1, 3, none⟩ = some (.slice ha 0 hc)) ∧ (w'.cell? ⟨gD, 0, none⟩ = some (.int .i64 T) ∧ w'.cell? ⟨gD, 1, none⟩ = some (.int .i64 0) ∧ w'.cell? ⟨gD, 2, none⟩ = some (.slice (some ⟨gS, 0, none⟩) B B) ∧ w'.cell? ⟨gD, 3, none⟩ = some (.slice none 0 0))) (first | (with_reducible exact R1.out.twelve) | (with_reducible exact R1.out.drew.twelve) | (with_reducible exact H5.out.twelve) | (with_reducible exact (H5.out.putS _ _).twelve) | go_keep) (first | (go_at_call 28; (with_reducible refine (NA.out _).mono ?_); rintro e w5 ⟨rfl, hb⟩; have H5 := Lib.hid (R1.out.drew.step hb); clear hb))
        all_goals (go_wp2_with fail; go_meet; exact ⟨rfl, H5.out⟩)
      case rest =>
      obtain ⟨rfl, hz⟩ := hcut
      have R2 := Lib.hid hz
      clear hz R1
      go_upto_region 10 with (fail)
      go_region_held3 (fun w' => (w'.cell? ⟨w.heap.size, 0, none⟩ = some (.int .i64 k) ∧ w'.cell? ⟨w.heap.size, 1, none⟩ = some (.int .i64 l) ∧ w'.cell? ⟨w.heap.size, 2, none⟩ = some (.int .i64 v) ∧ w'.cell? ⟨w.heap.size, 3, none⟩ = some (.int .i64 (B : Int))) ∧ (w'.cell? ⟨w.heap.size + 1, 0, none⟩ = some (.int .i64 a) ∧ w'.cell? ⟨w.heap.size + 1, 1, none⟩ = some (.int .i64 0) ∧ w'.cell? ⟨w.heap.size + 1, 2, none⟩ = some (.slice sa sn sc) ∧ w'.cell? ⟨w.heap.size + 1, 3, none⟩ = some (.slice ha 0 hc)) ∧ (w'.cell? ⟨gD, 0, none⟩ = some (.int .i64 T) ∧ w'.cell? ⟨gD, 1, none⟩ = some (.int .i64 0) ∧ w'.cell? ⟨gD, 2, none⟩ = some (.slice (some ⟨gS, 0, none⟩) B B) ∧ w'.cell? ⟨gD, 3, none⟩ = some (.slice none 0 0))) (first | (with_reducible exact R2.out.twelve) | (with_reducible exact R2.out.drew.twelve) | (with_reducible exact H6.out.twelve) | (with_reducible exact (H6.out.putS _ _).twelve) | go_keep) (first | (go_at_call 29; (with_reducible refine (IQ.out _ R2.out.drew.be).mono ?_); rintro e w6 ⟨rfl, hb⟩; have H6 := Lib.hid (R2.out.drew.step hb); have s0 := H6.out.s.loose; have s1 : w6.cell? ⟨gS, rr, none⟩ = some (.int .i64 (fd rr)) := (H6.out.s.cell rr).trans (rowF_get _ _ _ _ BB2); clear hb))
      all_goals
        have R3 := Lib.hid (H6.out.putS rr X)
        rw [← HS.out] at R3
        go_wp2_with fail
        go_roundw
        case rel => exact ⟨i + 1, by omega, by go_num, R3.out⟩
        case measure => simp [intOf]; omega
    · have hz := R1.out.congr (fun j hj => DL.out q0 HQ0.out i (by omega) j (by omega))
      have R2 := Lib.hid hz
      clear hz R1 IA NA
      obtain ⟨⟨j0, j1, j2, j3⟩, ⟨j4, j5, j6, j7⟩, j8, j9, j10, j11⟩ := R2.out.twelve
      go_wp2_with fail
      refine (CN.out gS _ R2.out.row).mono ?_; rintro e w7 ⟨rfl, hb⟩
      have R4 := Lib.hid (R2.out.step hb)
      clear hb R2 CN j0 j1 j2 j3 j4 j5 j6 j7 j8 j9 j10 j11
      obtain ⟨⟨j0, j1, j2, j3⟩, ⟨j4, j5, j6, j7⟩, j8, j9, j10, j11⟩ := R4.out.twelve
      go_upto_region 13 with (fail)
      have hz := R4.out.toS [.bool false, .int .i64 0, .int .i64 0, .int .i64 0]
      clear R4 j0 j1 j2 j3 j4 j5 j6 j7 j8 j9 j10 j11
      generalize hw : w7.alloc (.cells [.bool false, .int .i64 0, .int .i64 0, .int .i64 0].toArray 32) = wy at hz ⊢
      clear hw
      generalize w7.heap.size = gV at hz ⊢
      have H0 := Lib.hid hz
      clear hz
      obtain ⟨⟨j0, j1, j2, j3⟩, j4, j5, j6, j7⟩ := H0.out.eight
      obtain ⟨u0, u1, u2, u3⟩ := H0.out.v.four
      have u4 := H0.out.v.loose
      go_wp2_with fail
      refine (W1.out gS _ H0.out.row).mono ?_; rintro e w8 ⟨rfl, hb⟩
      have H1 := Lib.hid (H0.out.step hb)
      clear hb H0
      clear j0 j1 j2 j3 j4 j5 j6 j7 u0 u1 u2 u3 u4
      obtain ⟨⟨j0, j1, j2, j3⟩, j4, j5, j6, j7⟩ := H1.out.eight
      obtain ⟨u0, u1, u2, u3⟩ := H1.out.v.four
      have u4 := H1.out.v.loose
      go_upto_region 20 with (fail)
      clear j0 j1 j2 j3 j4 j5 j6 j7 u0 u1 u2 u3 u4
      have hz := (H1.out.putV 2 (.int .i64 X1)).putV 1 (.int .i64 (l - n))
      replace hz : AskS w k l v T B f0 gD gS gV [.bool false, .int .i64 (l - n), .int .i64 X1, .int .i64 0] ((w8.setCell ⟨gV, 2, none⟩ (.int .i64 X1)).setCell ⟨gV, 1, none⟩ (.int .i64 (l - n))) := hz
      generalize (w8.setCell ⟨gV, 2, none⟩ (.int .i64 X1)).setCell ⟨gV, 1, none⟩ (.int .i64 (l - n)) = wx at hz ⊢
      have H2 := Lib.hid hz
      clear hz H1
      obtain ⟨⟨j0, j1, j2, j3⟩, j4, j5, j6, j7⟩ := H2.out.eight
      obtain ⟨u0, u1, u2, u3⟩ := H2.out.v.four
      have u4 := H2.out.v.loose
      go_wp2_with fail
      refine (W2.out gS _ H2.out.row).mono ?_; rintro e w9 ⟨rfl, hb⟩
      have H3 := Lib.hid (H2.out.step hb)
      clear hb H2
      clear j0 j1 j2 j3 j4 j5 j6 j7 u0 u1 u2 u3 u4
      obtain ⟨⟨j0, j1, j2, j3⟩, j4, j5, j6, j7⟩ := H3.out.eight
      obtain ⟨u0, u1, u2, u3⟩ := H3.out.v.four
      have u4 := H3.out.v.loose
      go_upto_region 21 with (fail)
      clear j0 j1 j2 j3 j4 j5 j6 j7 u0 u1 u2 u3 u4
      have hz := H3.out.putV 3 (.int .i64 X2)
      replace hz : AskS w k l v T B f0 gD gS gV [.bool false, .int .i64 (l - n), .int .i64 X1, .int .i64 X2] (w9.setCell ⟨gV, 3, none⟩ (.int .i64 X2)) := hz
      generalize w9.setCell ⟨gV, 3, none⟩ (.int .i64 X2) = wv at hz ⊢
      have H8 := Lib.hid hz
      clear hz H3
      obtain ⟨⟨j0, j1, j2, j3⟩, j4, j5, j6, j7⟩ := H8.out.eight
      obtain ⟨u0, u1, u2, u3⟩ := H8.out.v.four
      obtain ⟨r0, r1, r2, r3, r4, r5, r6, r7, r8, r9⟩ := H8.out.res
      have g0 : gD ≠ w.heap.size + 1 + 1 := by have := H8.out.b1; omega
      have g1 : gD ≠ w.heap.size + 1 + 1 + 1 := by have := H8.out.b1; omega
      have g2 : gV ≠ w.heap.size + 1 + 1 := by have := H8.out.b3; omega
      have g3 : gV ≠ w.heap.size + 1 + 1 + 1 := by have := H8.out.b3; omega
      have g4 : gS ≠ w.heap.size + 1 + 1 := by have := H8.out.b2; omega
      have g5 : gS ≠ w.heap.size + 1 + 1 + 1 := by have := H8.out.b2; omega
      go_region
      all_goals go_wp2_with fail
      all_goals refine bodyPost_ret (v := .tuple #[.agg #[.int .i64 T, .int .i64 0, .slice (some ⟨gS, 0, none⟩) B B, .slice none 0 0], .agg #[.bool false, .int .i64 (l - n), .int .i64 X1, .int .i64 X2]]) (by simp [results, Try.results11, go_sem, r0, r1, r2, r3, r4, r5, r6, r7]) rfl ⟨gS, rfl, by have := H8.out.b2; omega, ?_, ?_⟩
      all_goals repeat (first | with_reducible exact H8.out.be | with_reducible exact H8.out.s | with_reducible (refine Below.setCell ?_ (le3 _) _) | with_reducible (refine Below.setCell ?_ (le2 _) _) | with_reducible refine Below.drew ?_ | with_reducible refine has_drew ?_ | with_reducible (refine Has.apart ?_ g4 _) | with_reducible (refine Has.apart ?_ g5 _))

set_option maxRecDepth 100000 in
set_option maxHeartbeats 4000000 in
theorem rAsk_nv (k l v sl a t m T : Int) (sa ha : Option Addr) (sn sc hc B : Nat) (f : Nat → Int) (w : World) (h : RP k l v (B : Int) sl) (a1 : 0 ≤ a) (a2 : a ≤ 1099511627776) (hm : MaySums l (B : Int) (a / sl) sn f) (hf : SumsAt w sa sn f) (t1 : 0 ≤ t) (t2 : t ≤ 1099511627776) (m1 : 1 ≤ m) (m2 : m ≤ 1048576) (hT : tmax t a = T) (hl : l < m) :
    Calls Try.prog 11 #[.agg #[.int .i64 k, .int .i64 l, .int .i64 v, .int .i64 (B : Int)], .agg #[.int .i64 a, .int .i64 0, .slice sa sn sc, .slice ha 0 hc], .int .i64 t, .int .i64 m] w (RTold T B (turnV (B : Int) (a / sl) (T / sl) sn f) false (l - cntV (B : Int) (T / sl) (T / sl) B (turnV (B : Int) (a / sl) (T / sl) sn f)) (2199023255552) (waitV (fun q => cntV (B : Int) (T / sl) q B (turnV (B : Int) (a / sl) (T / sl) sn f)) sl (T / sl) (B : Int) T 0) w) := by
  obtain ⟨l1, l2, v1, v2, b1, b2, s1, s2, _⟩ := h.bd
  obtain ⟨d0, d1⟩ := div_bd a1 s1
  have tb : a ≤ T ∧ T ≤ 1099511627776 := by rw [← hT]; unfold tmax; split <;> omega
  have tmm : (t < a ∧ T = a) ∨ (a ≤ t ∧ T = t) := by rw [← hT]; unfold tmax; split <;> omega
  obtain ⟨tb1, tb2⟩ := tb
  have hdt : a / sl ≤ T / sl := Int.ediv_le_ediv (by omega) tb1
  obtain ⟨M0, M1⟩ := div_bd (show 0 ≤ T by omega) s1
  have mt := may_turn (B := B) b1 rfl hm (show 0 ≤ l by omega) hdt M0
  have MK := Lib.hid (fun u (hu : Below w.heap.size w u) => rMay_yes k l v (B : Int) sl a sa ha sn sc hc f u h a1 a2 hm (hf.below hu))
  have TK := Lib.hid (fun u => rTime_yes t u t1 t2)
  have WK := Lib.hid (fun u => rWeighs_yes m u m1 m2)
  have NT := Lib.hid (fun u => number_any k l v (B : Int) sl T u h (by omega) (by omega))
  have NA := Lib.hid (fun u => number_any k l v (B : Int) sl a u h (by omega) (by omega))
  have IA := Lib.hid (fun q u (hu : Below w.heap.size w u) => in_any k l v (B : Int) sl a 0 q sa ha sn sc 0 hc u h a1 a2 f hm.len (hf.below hu))
  have CN := Lib.hid (fun g u (hu : SumsAt u (some ⟨g, 0, none⟩) B (turnV (B : Int) (a / sl) (T / sl) sn f)) => counts_any k l v (B : Int) sl T 0 T (some ⟨g, 0, none⟩) none B B 0 0 (turnV (B : Int) (a / sl) (T / sl) sn f) u h (by omega) tb2 (Int.le_refl _) (by omega) mt.len hu (mt.bd l2))
  have mf : MaySums l (B : Int) (T / sl) B (turnV (B : Int) (a / sl) (T / sl) sn f) := mt
  have W2 := Lib.hid (fun g u (hu : SumsAt u (some ⟨g, 0, none⟩) B (turnV (B : Int) (a / sl) (T / sl) sn f)) => wait_any k l v (B : Int) sl T T 0 (some ⟨g, 0, none⟩) none B B 0 (turnV (B : Int) (a / sl) (T / sl) sn f) u h (by omega) tb2 (Int.le_refl _) tb2 mf.len hu (mf.bd l2))
  have c0 := cnt_nn (N := T / sl) (X := T / sl) b1 mt.len (fun i hi => (mt.each i hi).1)
  have c1 := cnt_le (X := T / sl) b1 mt (show 0 ≤ l by omega) (Int.le_refl _)
  have DL := Lib.hid (fun q0 hq i hi j hj => docL_all (N := a / sl) (sn := sn) (f := f) b1 M0 hq (q0 := q0) i hi j hj)
  clear mt mf
  generalize hf0 : (turnV (B : Int) (a / sl) (T / sl) sn f) = f0 at *
  clear hf0
  generalize waitV (fun q => cntV (B : Int) (T / sl) q B f0) sl (T / sl) (B : Int) T 0 = X2 at *
  generalize cntV (B : Int) (T / sl) (T / sl) B f0 = n at *
  have e1 : IntKind.i64.wrap (l - n) = l - n := wrap_i (by omega) (by omega)
  have e2 : IntKind.i64.wrap (n + m) = n + m := wrap_i (by omega) (by omega)
  have dq : decide (n + m ≤ l) = false := by simp; omega
  have hMle : T / sl ≤ 1099511627776 := by omega
  clear hf hm M1 d1
  generalize hM : T / sl = M at *
  generalize hN : a / sl = N at *
  clear hM hN
  obtain ⟨q0, hq0⟩ : ∃ q0 : Int, q0 = if M - (B : Int) + 1 ≤ 0 then 0 else M - (B : Int) + 1 := ⟨_, rfl⟩
  have Q0 : (M - (B : Int) + 1 ≤ 0 ∧ q0 = 0) ∨ (0 < M - (B : Int) + 1 ∧ q0 = M - (B : Int) + 1) := by
    rw [hq0]; split <;> omega
  have q00 : 0 ≤ q0 := by omega
  have q01 : M - (B : Int) + 1 ≤ q0 := by omega
  have q02 : q0 ≤ M := by omega
  have HQ0 := Lib.hid hq0
  have e6 : IntKind.i64.wrap (M - (B : Int)) = M - (B : Int) := wrap_i (by omega) (by omega)
  have e8 : IntKind.i64.wrap (M - (B : Int) + 1) = M - (B : Int) + 1 := wrap_i (by omega) (by omega)
  have mk := run_mkI B (by omega)
  clear hq0 h hT s1 s2 v1 v2
  have HP := Lib.hid (AskAt.made w k l v (B : Int) a 0 (.slice sa sn sc) (.slice ha 0 hc))
  have HC := Lib.hid (((made2 w 27 23 [.int .i64 a, .int .i64 0, .slice sa sn sc, .slice ha 0 hc] (.cells #[.int .i64 k, .int .i64 l, .int .i64 v, .int .i64 (B : Int)] 23)).alloc (.cells #[.int .i64 0, .int .i64 0, .slice none 0 0, .slice none 0 0] 27)).alloc (.cells #[.bool false, .int .i64 0, .int .i64 0, .int .i64 0] 32))
  go_enter Try.func11, Try.ntmps11
  go_wp2_with fail
  refine (MK.out _ HP.out.pc.be).mono ?_; rintro e w1 ⟨rfl, hb⟩
  have HQ := Lib.hid (HP.out.step hb)
  have HD := Lib.hid (HC.out.step hb)
  clear hb HP MK HC
  obtain ⟨z0, z1, z2, z3, z4, z5, z6, z7⟩ := HQ.out.pc.eight
  go_wp2_with fail
  refine (TK.out _).mono ?_; rintro e w' ⟨rfl, rfl⟩
  go_wp2_with fail
  refine (WK.out _).mono ?_; rintro e w' ⟨rfl, rfl⟩
  go_upto_region 3 with (fail)
  go_cut [2] (fun s2 wx => s2 = .int .i64 T ∧ wx = w1)
  case first =>
    rcases tmm with ⟨q1, q2⟩ | ⟨q1, q2⟩
    · go_upto_region 4 with (fail)
      all_goals (go_meet; exact ⟨by rw [q2], rfl⟩)
    · go_upto_region 4 with (fail)
      all_goals (go_meet; exact ⟨by rw [q2], rfl⟩)
  case rest =>
  obtain ⟨rfl, rfl⟩ := hcut
  clear tmm
  go_wp2_with fail
  refine (NT.out _).mono ?_; rintro e w2 ⟨rfl, hb⟩
  have HE := Lib.hid (HQ.out.step hb)
  have HG := Lib.hid (HD.out.step hb)
  clear hb HQ HD NT z0 z1 z2 z3 z4 z5 z6 z7
  obtain ⟨z0, z1, z2, z3, z4, z5, z6, z7⟩ := HE.out.pc.eight
  go_upto_region 6 with (fail)
  clear z0 z1 z2 z3 z4 z5 z6 z7 mk
  have hz := AskAt.toL (T := T) HE.out HG.out
  clear HE HG
  generalize hw : (w2.alloc (.cells (rowF .i64 (fun _ => 0) B).toArray 3)).alloc (.cells #[.int .i64 T, .int .i64 0, .slice (some ⟨w2.heap.size, 0, none⟩) B B, .slice none 0 0] 27) = wz at hz ⊢
  clear hw
  generalize w2.heap.size + 1 = gD at hz ⊢
  generalize w2.heap.size = gS at hz ⊢
  have H0 := Lib.hid hz
  clear hz
  go_cut [12] (fun s12 wx => s12 = .int .i64 q0 ∧ wx = wz)
  case first =>
    obtain ⟨⟨j0, j1, j2, j3⟩, ⟨j4, j5, j6, j7⟩, j8, j9, j10, j11⟩ := H0.out.twelve
    rcases Q0 with ⟨q1, q2⟩ | ⟨q1, q2⟩
    · go_wp2_with fail
      all_goals (go_meet; exact ⟨by rw [q2], rfl⟩)
    · go_wp2_with fail
      all_goals (go_meet; exact ⟨by rw [q2], rfl⟩)
  case rest =>
  obtain ⟨rfl, rfl⟩ := hcut
  clear Q0 e6 e8
  go_wp2_with fail
  go_loopw [12] (fun vq wr => ∃ i : Nat, q0 + (i : Int) ≤ M + 1 ∧ vq = .int .i64 (q0 + (i : Int)) ∧ LoopS w k l v a T B (.slice sa sn sc) (.slice ha 0 hc) (docL (B : Int) N q0 sn f i) gD gS wr) (fun vq _ => (M + 1 - intOf vq).toNat)
  case atStart => exact ⟨0, by omega, by simp, H0.out⟩
  case round =>
    obtain ⟨i, hi, rfl, hr⟩ := hrel
    have R1 := Lib.hid hr
    clear hr H0
    by_cases hlt : q0 + (i : Int) ≤ M
    · have pz0 : 0 ≤ (q0 + (i : Int)) % (B : Int) := Int.emod_nonneg _ (by omega)
      have pz1 : (q0 + (i : Int)) % (B : Int) < (B : Int) := Int.emod_lt_of_pos _ (by omega)
      obtain ⟨rr, hrr⟩ : ∃ rr : Nat, (q0 + (i : Int)) % (B : Int) = (rr : Int) := ⟨((q0 + (i : Int)) % (B : Int)).toNat, by omega⟩
      have HS := Lib.hid (show docL (B : Int) N q0 sn f (i + 1) = putF (docL (B : Int) N q0 sn f i) rr (inV (B : Int) N sn f (q0 + i)) by simp only [docL]; rw [hrr]; rfl)
      have et : (q0 + (i : Int)).tmod (B : Int) = (rr : Int) := by rw [tmod_i (by omega)]; exact hrr
      have ew : IntKind.i64.wrap (rr : Int) = (rr : Int) := wrap_i (by omega) (by omega)
      have ew2 : IntKind.i64.wrap (N - (B : Int)) = N - (B : Int) := wrap_i (by omega) (by omega)
      have bz : ((B : Int) == 0) = false := by simp; omega
      have bn : ¬ (B : Int) = 0 := by omega
      have bn2 : ¬ B = 0 := by omega
      have bz2 : (B == 0) = false := by simp; omega
      have BB0 : (0 : Int) ≤ (rr : Int) := by omega
      have BB1 : (rr : Int) < (B : Int) := by omega
      have BB2 : rr < B := by omega
      have tt : decide (N - (B : Int) < q0 + (i : Int)) = true := by simp; omega
      have tt2 : N - (B : Int) < q0 + (i : Int) := by omega
      have IQ := Lib.hid (IA.out (q0 + (i : Int)))
      clear hrr pz0 pz1
      generalize inV (B : Int) N sn f (q0 + i) = X at *
      generalize docL (B : Int) N q0 sn f i = fd at *
      go_upto_region 9 with (fail)
      go_cut [62] from 49 to 73 (fun s62 wx => s62 = .bool true ∧ LoopS w k l v a T B (.slice sa sn sc) (.slice ha 0 hc) fd gD gS wx)
      case first =>
        go_region_held3 (fun w' => (w'.cell? ⟨w.heap.size, 0, none⟩ = some (.int .i64 k) ∧ w'.cell? ⟨w.heap.size, 1, none⟩ = some (.int .i64 l) ∧ w'.cell? ⟨w.heap.size, 2, none⟩ = some (.int .i64 v) ∧ w'.cell? ⟨w.heap.size, 3, none⟩ = some (.int .i64 (B : Int))) ∧ (w'.cell? ⟨w.heap.size + 1, 0, none⟩ = some (.int .i64 a) ∧ w'.cell? ⟨w.heap.size + 1, 1, none⟩ = some (.int .i64 0) ∧ w'.cell? ⟨w.heap.size + 1, 2, none⟩ = some (.slice sa sn sc) ∧ w'.cell? ⟨w.heap.size + 1, 3, none⟩ = some (.slice ha 0 hc)) ∧ (w'.cell? ⟨gD, 0, none⟩ = some (.int .i64 T) ∧ w'.cell? ⟨gD, 1, none⟩ = some (.int .i64 0) ∧ w'.cell? ⟨gD, 2, none⟩ = some (.slice (some ⟨gS, 0, none⟩) B B) ∧ w'.cell? ⟨gD, 3, none⟩ = some (.slice none 0 0))) (first | (with_reducible exact R1.out.twelve) | (with_reducible exact R1.out.drew.twelve) | (with_reducible exact H5.out.twelve) | (with_reducible exact (H5.out.putS _ _).twelve) | go_keep) (first | (go_at_call 28; (with_reducible refine (NA.out _).mono ?_); rintro e w5 ⟨rfl, hb⟩; have H5 := Lib.hid (R1.out.drew.step hb); clear hb))
        all_goals (go_wp2_with fail; go_meet; exact ⟨rfl, H5.out⟩)
      case rest =>
      obtain ⟨rfl, hz⟩ := hcut
      have R2 := Lib.hid hz
      clear hz R1
      go_upto_region 10 with (fail)
      go_region_held3 (fun w' => (w'.cell? ⟨w.heap.size, 0, none⟩ = some (.int .i64 k) ∧ w'.cell? ⟨w.heap.size, 1, none⟩ = some (.int .i64 l) ∧ w'.cell? ⟨w.heap.size, 2, none⟩ = some (.int .i64 v) ∧ w'.cell? ⟨w.heap.size, 3, none⟩ = some (.int .i64 (B : Int))) ∧ (w'.cell? ⟨w.heap.size + 1, 0, none⟩ = some (.int .i64 a) ∧ w'.cell? ⟨w.heap.size + 1, 1, none⟩ = some (.int .i64 0) ∧ w'.cell? ⟨w.heap.size + 1, 2, none⟩ = some (.slice sa sn sc) ∧ w'.cell? ⟨w.heap.size + 1, 3, none⟩ = some (.slice ha 0 hc)) ∧ (w'.cell? ⟨gD, 0, none⟩ = some (.int .i64 T) ∧ w'.cell? ⟨gD, 1, none⟩ = some (.int .i64 0) ∧ w'.cell? ⟨gD, 2, none⟩ = some (.slice (some ⟨gS, 0, none⟩) B B) ∧ w'.cell? ⟨gD, 3, none⟩ = some (.slice none 0 0))) (first | (with_reducible exact R2.out.twelve) | (with_reducible exact R2.out.drew.twelve) | (with_reducible exact H6.out.twelve) | (with_reducible exact (H6.out.putS _ _).twelve) | go_keep) (first | (go_at_call 29; (with_reducible refine (IQ.out _ R2.out.drew.be).mono ?_); rintro e w6 ⟨rfl, hb⟩; have H6 := Lib.hid (R2.out.drew.step hb); have s0 := H6.out.s.loose; have s1 : w6.cell? ⟨gS, rr, none⟩ = some (.int .i64 (fd rr)) := (H6.out.s.cell rr).trans (rowF_get _ _ _ _ BB2); clear hb))
      all_goals
        have R3 := Lib.hid (H6.out.putS rr X)
        rw [← HS.out] at R3
        go_wp2_with fail
        go_roundw
        case rel => exact ⟨i + 1, by omega, by go_num, R3.out⟩
        case measure => simp [intOf]; omega
    · have hz := R1.out.congr (fun j hj => DL.out q0 HQ0.out i (by omega) j (by omega))
      have R2 := Lib.hid hz
      clear hz R1 IA NA
      obtain ⟨⟨j0, j1, j2, j3⟩, ⟨j4, j5, j6, j7⟩, j8, j9, j10, j11⟩ := R2.out.twelve
      go_wp2_with fail
      refine (CN.out gS _ R2.out.row).mono ?_; rintro e w7 ⟨rfl, hb⟩
      have R4 := Lib.hid (R2.out.step hb)
      clear hb R2 CN j0 j1 j2 j3 j4 j5 j6 j7 j8 j9 j10 j11
      obtain ⟨⟨j0, j1, j2, j3⟩, ⟨j4, j5, j6, j7⟩, j8, j9, j10, j11⟩ := R4.out.twelve
      go_upto_region 13 with (fail)
      have hz := R4.out.toS [.bool false, .int .i64 0, .int .i64 0, .int .i64 0]
      clear R4 j0 j1 j2 j3 j4 j5 j6 j7 j8 j9 j10 j11
      generalize hw : w7.alloc (.cells [.bool false, .int .i64 0, .int .i64 0, .int .i64 0].toArray 32) = wy at hz ⊢
      clear hw
      generalize w7.heap.size = gV at hz ⊢
      have H0 := Lib.hid hz
      clear hz
      obtain ⟨⟨j0, j1, j2, j3⟩, j4, j5, j6, j7⟩ := H0.out.eight
      obtain ⟨u0, u1, u2, u3⟩ := H0.out.v.four
      have u4 := H0.out.v.loose
      go_upto_region 20 with (fail)
      clear j0 j1 j2 j3 j4 j5 j6 j7 u0 u1 u2 u3 u4
      have hz := (H0.out.putV 2 (.int .i64 2199023255552)).putV 1 (.int .i64 (l - n))
      replace hz : AskS w k l v T B f0 gD gS gV [.bool false, .int .i64 (l - n), .int .i64 2199023255552, .int .i64 0] ((wy.setCell ⟨gV, 2, none⟩ (.int .i64 2199023255552)).setCell ⟨gV, 1, none⟩ (.int .i64 (l - n))) := hz
      generalize (wy.setCell ⟨gV, 2, none⟩ (.int .i64 2199023255552)).setCell ⟨gV, 1, none⟩ (.int .i64 (l - n)) = wx at hz ⊢
      have H2 := Lib.hid hz
      clear hz H0
      obtain ⟨⟨j0, j1, j2, j3⟩, j4, j5, j6, j7⟩ := H2.out.eight
      obtain ⟨u0, u1, u2, u3⟩ := H2.out.v.four
      have u4 := H2.out.v.loose
      go_wp2_with fail
      refine (W2.out gS _ H2.out.row).mono ?_; rintro e w9 ⟨rfl, hb⟩
      have H3 := Lib.hid (H2.out.step hb)
      clear hb H2
      clear j0 j1 j2 j3 j4 j5 j6 j7 u0 u1 u2 u3 u4
      obtain ⟨⟨j0, j1, j2, j3⟩, j4, j5, j6, j7⟩ := H3.out.eight
      obtain ⟨u0, u1, u2, u3⟩ := H3.out.v.four
      have u4 := H3.out.v.loose
      go_upto_region 21 with (fail)
      clear j0 j1 j2 j3 j4 j5 j6 j7 u0 u1 u2 u3 u4
      have hz := H3.out.putV 3 (.int .i64 X2)
      replace hz : AskS w k l v T B f0 gD gS gV [.bool false, .int .i64 (l - n), .int .i64 2199023255552, .int .i64 X2] (w9.setCell ⟨gV, 3, none⟩ (.int .i64 X2)) := hz
      generalize w9.setCell ⟨gV, 3, none⟩ (.int .i64 X2) = wv at hz ⊢
      have H8 := Lib.hid hz
      clear hz H3
      obtain ⟨⟨j0, j1, j2, j3⟩, j4, j5, j6, j7⟩ := H8.out.eight
      obtain ⟨u0, u1, u2, u3⟩ := H8.out.v.four
      obtain ⟨r0, r1, r2, r3, r4, r5, r6, r7, r8, r9⟩ := H8.out.res
      have g0 : gD ≠ w.heap.size + 1 + 1 := by have := H8.out.b1; omega
      have g1 : gD ≠ w.heap.size + 1 + 1 + 1 := by have := H8.out.b1; omega
      have g2 : gV ≠ w.heap.size + 1 + 1 := by have := H8.out.b3; omega
      have g3 : gV ≠ w.heap.size + 1 + 1 + 1 := by have := H8.out.b3; omega
      have g4 : gS ≠ w.heap.size + 1 + 1 := by have := H8.out.b2; omega
      have g5 : gS ≠ w.heap.size + 1 + 1 + 1 := by have := H8.out.b2; omega
      go_region
      all_goals go_wp2_with fail
      all_goals refine bodyPost_ret (v := .tuple #[.agg #[.int .i64 T, .int .i64 0, .slice (some ⟨gS, 0, none⟩) B B, .slice none 0 0], .agg #[.bool false, .int .i64 (l - n), .int .i64 2199023255552, .int .i64 X2]]) (by simp [results, Try.results11, go_sem, r0, r1, r2, r3, r4, r5, r6, r7]) rfl ⟨gS, rfl, by have := H8.out.b2; omega, ?_, ?_⟩
      all_goals repeat (first | with_reducible exact H8.out.be | with_reducible exact H8.out.s | with_reducible (refine Below.setCell ?_ (le3 _) _) | with_reducible (refine Below.setCell ?_ (le2 _) _) | with_reducible refine Below.drew ?_ | with_reducible refine has_drew ?_ | with_reducible (refine Has.apart ?_ g4 _) | with_reducible (refine Has.apart ?_ g5 _))
end Go.Proofs.Ytbmjpfcnagodaaa
