/- A table and the document's map side by side: one call of both. -/
import Derived.Test.YtgcdminjpdbchaaDoorRbM5
import Derived.Test.YtgcdminjpdbchaaDoorRbOps
import Derived.Deep.RegionHeld3
import Derived.Deep.DeepCutAuto
namespace Go.Proofs.YtgcdminjpdbchaaDoor
open Go.ChangeShapes Go.WideShapes Go.ChangeAt Go.RowKit
set_option linter.unusedVariables false

theorem has_ne {w : World} {g h : Nat} {t u : TypeId} {l m : List Value} (h1 : Has w g t l) (h2 : Has w h u m) (e : t ≠ u) : g ≠ h := by
  intro q
  subst q
  unfold Has at h1 h2
  rw [h1] at h2
  injection h2 with h2
  injection h2 with _ h3 _
  exact e h3
/-- A table and the document's map with the same keys. -/
structure DS (B bP bS seed bits bM : Nat) (M : ByteArray → Option Int) (v : Value) (l : List Pr) (w : World) : Prop where
  t : TT w bP bS seed bits M l.length
  m : Mp B w bM v l (2 ^ bits)
  lm : LM l M
  b : B ≤ w.heap.size
section
variable {B bP bS seed bits bM : Nat} {M : ByteArray → Option Int} {v : Value} {l : List Pr} {w w' : World}
theorem TT.hasP {c : Nat} (h : TT w bP bS seed bits M c) : ∃ x, Has w bP 64 x := by
  obtain ⟨s, hT, _⟩ := h
  exact ⟨_, hT.is.hd⟩
theorem TT.hasS {c : Nat} (h : TT w bP bS seed bits M c) : ∃ x, Has w bS 52 x := by
  obtain ⟨s, hT, _⟩ := h
  exact ⟨_, hT.is.sl⟩
theorem DS.neP (h : DS B bP bS seed bits bM M v l w) : bP ≠ bM ∧ ∀ b, v.ownBlock = some b → bP ≠ b := by
  obtain ⟨x, hx⟩ := h.t.hasP
  exact ⟨has_ne hx h.m.h (by decide), fun b hb => owns_ne h.m.o hb hx (by decide)⟩
theorem DS.neS (h : DS B bP bS seed bits bM M v l w) : bS ≠ bM ∧ ∀ b, v.ownBlock = some b → bS ≠ b := by
  obtain ⟨x, hx⟩ := h.t.hasS
  exact ⟨has_ne hx h.m.h (by decide), fun b hb => owns_ne h.m.o hb hx (by decide)⟩
theorem DS.below (h : DS B bP bS seed bits bM M v l w) (hb : Below w.heap.size w w') : DS B bP bS seed bits bM M v l w' := ⟨h.t.below hb, h.m.below hb, h.lm, Nat.le_trans h.b hb.size⟩
theorem DS.mapT (h : DS B bP bS seed bits bM M v l w) (hk : Kept (fun b => b = bS) w w') : Mp B w' bM v l (2 ^ bits) := h.m.kept hk (fun e => h.neS.1 e.symm) (fun b hb e => h.neS.2 b hb e.symm)
theorem DS.tabM (h : DS B bP bS seed bits bM M v l w) (hk : Kept (fun b => b = bM ∨ v.ownBlock = some b) w w') : TT w' bP bS seed bits M l.length := h.t.kept hk (fun e => e.elim h.neP.1 (fun q => h.neP.2 _ q rfl)) (fun e => e.elim h.neS.1 (fun q => h.neS.2 _ q rfl))
end
/-- Behind a call of both: only theirs has changed. -/
structure DT (B bP bS seed bits bM : Nat) (v : Value) (w : World) (M' : ByteArray → Option Int) (v' : Value) (l' : List Pr) (w' : World) : Prop where
  d : DS B bP bS seed bits bM M' v' l' w'
  kp : Kept (fun b => b = bS ∨ b = bM ∨ v.ownBlock = some b) w w'
  fr : ∀ b, v'.ownBlock = some b → v.ownBlock = some b ∨ w.heap.size ≤ b
def DoesT (B bP bS seed bits bM : Nat) (v : Value) (w : World) (e : Ending) (w' : World) : Prop := e = .returned (.bool true) ∧ ∃ M' v' l', DT B bP bS seed bits bM v w M' v' l' w'
section
variable {B bP bS seed bits bM : Nat} {M M' : ByteArray → Option Int} {v v' : Value} {l l' : List Pr} {w w0 w1 w2 : World}
theorem DT.from (h : DT B bP bS seed bits bM v w0 M' v' l' w2) (hb : Below w.heap.size w w0) : DT B bP bS seed bits bM v w M' v' l' w2 :=
  ⟨h.d, ((Kept.of_below (F := fun _ => False) hb).mono (fun _ _ q => q.elim)).trans h.kp (fun _ q => .inl q), fun b e => (h.fr b e).imp id (fun q => Nat.le_trans hb.size q)⟩
theorem DT.step (h : DT B bP bS seed bits bM v w M' v' l' w1) (hb : Below w1.heap.size w1 w2) : DT B bP bS seed bits bM v w M' v' l' w2 :=
  ⟨h.d.below hb, h.kp.trans (Kept.of_below (F := fun _ => False) hb) (fun _ q => q.elim), h.fr⟩
theorem DT.refl (h : DS B bP bS seed bits bM M v l w) : DT B bP bS seed bits bM v w M v l w := ⟨h, Kept.refl _ _, fun _ e => .inl e⟩
/-- The table first. -/
theorem DT.tm {c' : Nat} (h : DS B bP bS seed bits bM M v l w) (ht : TT w1 bP bS seed bits M' c') (hk : Kept (fun b => b = bS) w w1) (hm : PutM1 B bM v (2 ^ bits) M' c' w1 v' l' w2) : DT B bP bS seed bits bM v w M' v' l' w2 := by
  have h1 := h.mapT hk
  have ne : ∀ b, b = bM ∨ v.ownBlock = some b → b ≠ bP ∧ b ≠ bS := fun b q => q.elim (fun e => by subst e; exact ⟨h.neP.1.symm, h.neS.1.symm⟩) (fun e => ⟨(h.neP.2 b e).symm, (h.neS.2 b e).symm⟩)
  refine ⟨⟨?_, hm.m, hm.lm, Nat.le_trans h.b (Nat.le_trans hk.size hm.kp.size)⟩, (hk.mono (fun _ _ q => .inl q)).trans hm.kp (fun b q => .inl (.inr q)), fun b e => (hm.fr b e).imp id (fun q => Nat.le_trans hk.size q)⟩
  rw [hm.ln]
  exact ht.kept hm.kp (fun q => (ne _ q).1 rfl) (fun q => (ne _ q).2 rfl)
/-- The map first. -/
theorem DT.mt {c' : Nat} (h : DS B bP bS seed bits bM M v l w) (hm : PutM1 B bM v (2 ^ bits) M' c' w v' l' w1) (ht : TT w2 bP bS seed bits M' c') (hk : Kept (fun b => b = bS) w1 w2) : DT B bP bS seed bits bM v w M' v' l' w2 := by
  obtain ⟨x, hx⟩ := (h.tabM hm.kp).hasS
  refine ⟨⟨by rw [hm.ln]; exact ht, hm.m.kept hk (fun e => has_ne hx hm.m.h (by decide) e.symm) (fun b hb e => owns_ne hm.m.o hb hx (by decide) e.symm), hm.lm, Nat.le_trans h.b (Nat.le_trans hm.kp.size hk.size)⟩, (hm.kp.mono (fun _ _ q => .inr q)).trans hk (fun b q => .inl (.inl q)), hm.fr⟩
end
/-- What has been made since a world in which the table of steps lies. -/
structure Bas (Wb : World) (bS bM : Nat) (v : Value) (w : World) : Prop where
  tb : TabW Wb
  be : Below Wb.heap.size Wb w
  s : Wb.heap.size ≤ bS
  m : Wb.heap.size ≤ bM
  o : ∀ b, v.ownBlock = some b → Wb.heap.size ≤ b
theorem Bas.tab {Wb w : World} {bS bM : Nat} {v : Value} (h : Bas Wb bS bM v w) : TabW w := h.tb.below h.be
theorem Bas.step {Wb w w' : World} {bS bM : Nat} {v : Value} (h : Bas Wb bS bM v w) (hb : Below w.heap.size w w') : Bas Wb bS bM v w' := ⟨h.tb, h.be.trans (hb.mono h.be.size), h.s, h.m, h.o⟩
theorem Bas.kept {Wb w w' : World} {bS bM : Nat} {v : Value} (h : Bas Wb bS bM v w) (hk : Kept (fun b => b = bS ∨ b = bM ∨ v.ownBlock = some b) w w') : Bas Wb bS bM v w' :=
  ⟨h.tb, h.be.trans (hk.below h.be.size (fun k hk q => by
    rcases q with q | q | q
    · have := h.s; omega
    · have := h.m; omega
    · have := h.o _ q; omega)), h.s, h.m, h.o⟩
theorem Bas.next {Wb w w' : World} {B bP bS seed bits bM : Nat} {v v' : Value} {M' : ByteArray → Option Int} {l' : List Pr} (h : Bas Wb bS bM v w) (k : DT B bP bS seed bits bM v w M' v' l' w') : Bas Wb bS bM v' w' :=
  ⟨h.tb, (h.kept k.kp).be, h.s, h.m, fun b hb => (k.fr b hb).elim (h.o b) (fun q => Nat.le_trans h.be.size q)⟩
/-- What the calls read of their call. -/
abbrev OpB (H : Nat) (k : ByteArray) (y : Int) (w : World) : Prop := w.cell? ⟨H, 1, none⟩ = some (.string k) ∧ w.cell? ⟨H, 2, none⟩ = some (.int .i64 y)
theorem opb_kept {F : Nat → Prop} {H : Nat} {k : ByteArray} {y d : Int} {w w' : World} (h : Has w H 35 [.int .i64 d, .string k, .int .i64 y]) (hk : Kept F w w') (hF : ¬ F H) : OpB H k y w' ∧ Has w' H 35 [.int .i64 d, .string k, .int .i64 y] := by
  have := h.kept hk hF
  exact ⟨⟨this.cell 1, this.cell 2⟩, this⟩
set_option maxRecDepth 100000 in
set_option maxHeartbeats 0 in
theorem does_any (B bP bS seed bits bM : Nat) (M : ByteArray → Option Int) (v : Value) (l : List Pr) (d y : Int) (k : ByteArray) (w : World) (hb8 : bits ≤ 8) (Wb : World) (h : DS B bP bS seed bits bM M v l w) (hb : Bas Wb bS bM v w) (hk : k.size ≤ maxLen) (hy : I64 y) :
    Calls Tryd.prog 14 #[.pointer (some ⟨bP, 0, none⟩), .pointer (some ⟨bM, 0, none⟩), .agg #[.int .i64 d, .string k, .int .i64 y]] w (DoesT B bP bS seed bits bM v w) := by
  obtain ⟨W0, hW0⟩ : ∃ W0, w.alloc (.cells #[.int .i64 d, .string k, .int .i64 y] 35) = W0 := ⟨_, rfl⟩
  have hB0 : Below w.heap.size w W0 := by rw [← hW0]; exact (Below.refl _ _).alloc (Nat.le_refl _) _
  have hop : Has W0 w.heap.size 35 [.int .i64 d, .string k, .int .i64 y] := by rw [← hW0]; exact Has.made w 35 [.int .i64 d, .string k, .int .i64 y]
  have hm256 : 2 ^ bits ≤ 256 := Nat.le_trans (Nat.pow_le_pow_right (by decide) hb8) (by decide)
  have HB0 := Lib.hid hB0
  have D0 := Lib.hid (h.below hB0)
  have HS := Lib.hid (hb.step hB0)
  have hlt := h.t.lt
  have hmlt := h.m.h.lt
  have hvlt : ∀ b, v.ownBlock = some b → b < w.heap.size := fun b hb => (owns_lt h.m.o hb).2.1
  obtain ⟨H, hH⟩ : ∃ H, w.heap.size = H := ⟨_, rfl⟩
  rw [hH] at hlt hmlt hop HB0
  have HF1 := Lib.hid (show ¬ (H = bS) from fun e => by omega)
  have HF2 := Lib.hid (show ¬ (H = bM ∨ v.ownBlock = some H) from fun e => e.elim (fun q => by omega) (fun q => by have := hvlt _ q; omega))
  have HOP := Lib.hid hop
  have HK := Lib.hid hk
  have HY := Lib.hid hy
  have hle : l.length ≤ 2 ^ bits := h.t.le
  have c0 := hop.cell 0
  have c1 := hop.cell 1
  have c2 := hop.cell 2
  simp at c0 c1 c2
  have HH := Lib.hid hH
  clear h hb hop hB0 hk hy hvlt
  by_cases g0 : d = 0
  · subst g0
    have HBd := Lib.hid (Below.refl W0.heap.size W0).drew
    have DW := Lib.hid (D0.out.below HBd.out)
    have BW := Lib.hid (HS.out.step HBd.out)
    have HOW := Lib.hid (HOP.out.drew)
    have T0 := Lib.hid (Put_T bP bS seed bits M l.length k y W0.drew DW.out.t BW.out.tab HK.out HY.out)
    have M0 := Lib.hid (rPut_any B W0.drew bM v l (2 ^ bits) M k y hle hm256 HK.out DW.out.b DW.out.m DW.out.lm)
    have S0 := Lib.hid (show OpB H k y W0.drew from ⟨c1, c2⟩)
    have TX := Lib.hid (fun w3 (hk3 : Kept (fun b => b = bS) W0.drew w3) => rPut_any B w3 bM v l (2 ^ bits) M k y hle hm256 HK.out (Nat.le_trans DW.out.b hk3.size) (DW.out.mapT hk3) DW.out.lm)
    have MX := Lib.hid (fun w3 (hk3 : Kept (fun b => b = bM ∨ v.ownBlock = some b) W0.drew w3) => Put_T bP bS seed bits M l.length k y w3 (DW.out.tabM hk3) ((BW.out.kept (hk3.mono (fun _ _ q => .inr q))).tab) HK.out HY.out)
    go_enter Tryd.func14, Tryd.ntmps14
    skip
    skip
    go_wp2_with fail
    go_region_held3 (fun w' => w'.cell? ⟨H, 1, none⟩ = some (.string k) ∧ w'.cell? ⟨H, 2, none⟩ = some (.int .i64 y)) (first | (with_reducible exact S0.out) | (with_reducible exact S3.out) | (with_reducible exact S4.out) | go_keep) (first | (go_at_call 21; refine T0.out.mono ?_; rintro e w3 ⟨rfl, hT, hK⟩; have KT := Lib.hid hK; have T3 := Lib.hid hT; have S3 := Lib.hid (opb_kept HOW.out hK HF1.out).1; have O3 := Lib.hid (opb_kept HOW.out hK HF1.out).2; have M3 := Lib.hid (TX.out w3 hK); clear hT hK T0 M0 MX) | (go_at_call 26; refine M3.out.mono ?_; rintro e w4 ⟨rfl, v', l', hm⟩; have Z := Lib.hid ((DT.tm DW.out T3.out KT.out hm).from HBd.out); have S4 := Lib.hid (opb_kept O3.out hm.kp HF2.out).1; clear hm) | (go_at_call 26; refine M0.out.mono ?_; rintro e w3 ⟨rfl, v', l', hm⟩; have PM := Lib.hid hm; have S3 := Lib.hid (opb_kept HOW.out hm.kp HF2.out).1; have O3 := Lib.hid (opb_kept HOW.out hm.kp HF2.out).2; have T3 := Lib.hid (MX.out w3 hm.kp); clear hm T0 M0 TX) | (go_at_call 21; refine T3.out.mono ?_; rintro e w4 ⟨rfl, hT, hK⟩; have Z := Lib.hid ((DT.mt DW.out PM.out hT hK).from HBd.out); have S4 := Lib.hid (opb_kept O3.out hK HF1.out).1; clear hT hK))
    all_goals (go_wp2; go_ret; exact ⟨by simp, _, _, _, Z.out.from (by rw [HH.out]; exact HB0.out)⟩)
  · have g1 : (d == 0) = false := by simp [g0]
    by_cases g2 : d = 1
    · skip
      subst g2
      have TG := Lib.hid (Get_T bP bS seed bits M l.length k W0 D0.out.t HS.out.tab HK.out)
      have MG := Lib.hid (fun w3 (hb3 : Below W0.heap.size W0 w3) => rGet_any B w3 bM v l (2 ^ bits) M k (by omega) (D0.out.m.below hb3) D0.out.lm)
      have OG := Lib.hid (fun w3 (hb3 : Below W0.heap.size W0 w3) => (opb_kept HOP.out (Kept.of_below (F := fun _ => False) hb3) (fun q => q)).1)
      go_enter Tryd.func14, Tryd.ntmps14
      skip
      skip
      go_wp2_with fail
      refine TG.out.mono ?_
      rintro e w3 ⟨rfl, hb3⟩
      have MG3 := Lib.hid (MG.out w3 hb3)
      have y1 := (OG.out w3 hb3).1
      have HB3 := Lib.hid hb3
      clear hb3 TG MG OG
      go_wp2_with fail
      refine MG3.out.mono ?_
      rintro e w4 ⟨rfl, m, rfl⟩
      generalize (M k).getD 0 = z0
      generalize (M k).isSome = z1
      go_wp2
      go_ret
      exact ⟨by simp, _, _, _, ((DT.refl D0.out).step (below_drewN HB3.out m)).from (by rw [HH.out]; exact HB0.out)⟩
    · have g3 : (d == 1) = false := by simp [g2]
      by_cases g4 : d = 2
      · subst g4
        have HBd := Lib.hid (Below.refl W0.heap.size W0).drew
        have DW := Lib.hid (D0.out.below HBd.out)
        have BW := Lib.hid (HS.out.step HBd.out)
        have HOW := Lib.hid (HOP.out.drew)
        have T0 := Lib.hid (Delete_T bP bS seed bits M l.length k W0.drew DW.out.t BW.out.tab HK.out)
        have M0 := Lib.hid (rDelete_any B W0.drew bM v l (2 ^ bits) M k hle hm256 HK.out DW.out.b DW.out.m DW.out.lm)
        have S0 := Lib.hid (show OpB H k y W0.drew from ⟨c1, c2⟩)
        have TX := Lib.hid (fun w3 (hk3 : Kept (fun b => b = bS) W0.drew w3) => rDelete_any B w3 bM v l (2 ^ bits) M k hle hm256 HK.out (Nat.le_trans DW.out.b hk3.size) (DW.out.mapT hk3) DW.out.lm)
        have MX := Lib.hid (fun w3 (hk3 : Kept (fun b => b = bM ∨ v.ownBlock = some b) W0.drew w3) => Delete_T bP bS seed bits M l.length k w3 (DW.out.tabM hk3) ((BW.out.kept (hk3.mono (fun _ _ q => .inr q))).tab) HK.out)
        go_enter Tryd.func14, Tryd.ntmps14
        skip
        skip
        go_wp2_with fail
        go_region_held3 (fun w' => w'.cell? ⟨H, 1, none⟩ = some (.string k) ∧ w'.cell? ⟨H, 2, none⟩ = some (.int .i64 y)) (first | (with_reducible exact S0.out) | (with_reducible exact S3.out) | (with_reducible exact S4.out) | go_keep) (first | (go_at_call 22; refine T0.out.mono ?_; rintro e w3 ⟨rfl, hT, hK, _⟩; have KT := Lib.hid hK; have T3 := Lib.hid hT; have S3 := Lib.hid (opb_kept HOW.out hK HF1.out).1; have O3 := Lib.hid (opb_kept HOW.out hK HF1.out).2; have M3 := Lib.hid (TX.out w3 hK); clear hT hK T0 M0 MX) | (go_at_call 28; refine M3.out.mono ?_; rintro e w4 ⟨rfl, v', l', hm⟩; have Z := Lib.hid ((DT.tm DW.out T3.out KT.out hm).from HBd.out); have S4 := Lib.hid (opb_kept O3.out hm.kp HF2.out).1; clear hm) | (go_at_call 28; refine M0.out.mono ?_; rintro e w3 ⟨rfl, v', l', hm⟩; have PM := Lib.hid hm; have S3 := Lib.hid (opb_kept HOW.out hm.kp HF2.out).1; have O3 := Lib.hid (opb_kept HOW.out hm.kp HF2.out).2; have T3 := Lib.hid (MX.out w3 hm.kp); clear hm T0 M0 TX) | (go_at_call 22; refine T3.out.mono ?_; rintro e w4 ⟨rfl, hT, hK, _⟩; have Z := Lib.hid ((DT.mt DW.out PM.out hT hK).from HBd.out); have S4 := Lib.hid (opb_kept O3.out hK HF1.out).1; clear hT hK))
        all_goals (go_wp2; go_ret; exact ⟨by simp, _, _, _, Z.out.from (by rw [HH.out]; exact HB0.out)⟩)
      · have g5 : (d == 2) = false := by simp [g4]
        go_enter Tryd.func14, Tryd.ntmps14
        skip
        skip
        go_wp2
        go_ret
        exact ⟨rfl, _, _, _, (DT.refl D0.out).from (by rw [HH.out]; exact HB0.out)⟩
end Go.Proofs.YtgcdminjpdbchaaDoor
