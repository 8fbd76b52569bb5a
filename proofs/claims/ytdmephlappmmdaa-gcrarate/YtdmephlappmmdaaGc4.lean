/- The contracts of gcra.Ask, where it is done. WRITTEN BY gen_gc4.py. -/
import Derived.Test.YtdmephlappmmdaaGc3
import Derived.BigRegion
-- prune
namespace Go.Proofs.Ytdmephlappmmdaa
open Go.ChangeShapes Go.WideShapes Go.ChangeAt Go.RowKit
set_option linter.unusedVariables false

/-- A verdict of one's own lies in block g. -/
def VerAt (w0 : World) (k l v b a n : Int) (x y : Value) (g : Nat) (al : Bool) (rm rt rs : Int) (wx : World) : Prop :=
  AskAt w0 k l v b a n x y wx ∧ Has wx g 32 [.bool al, .int .i64 rm, .int .i64 rt, .int .i64 rs] ∧ w0.heap.size + 1 + 1 + 1 < g
theorem AskAt.set {w0 u : World} {k l v b a n : Int} {x y : Value} {g : Nat} (hu : AskAt w0 k l v b a n x y u) (hg : w0.heap.size + 1 + 1 + 1 < g) (i : Nat) (z : Value) : AskAt w0 k l v b a n x y (u.setCell ⟨g, i, none⟩ z) := by
    have c : ∀ (q j : Nat), q < g → (u.setCell ⟨g, i, none⟩ z).cell? ⟨q, j, none⟩ = u.cell? ⟨q, j, none⟩ := fun q j hq => World.cell?_of_block (w := u) (Below.heap_setCell u ⟨g, i, none⟩ z q (by show q ≠ g; omega))
    refine ⟨⟨?_, ?_, ?_, ?_, ?_, ?_, ?_, ?_, hu.pc.be.setCell (p := ⟨g, i, none⟩) (by show _ ≤ g; omega) z, ?_⟩, hu.rc.apart (p := ⟨g, i, none⟩) (by show _ ≠ g; omega) z, hu.rv.apart (p := ⟨g, i, none⟩) (by show _ ≠ g; omega) z⟩
    · exact (c _ _ (by omega)).trans hu.pc.p0
    · exact (c _ _ (by omega)).trans hu.pc.p1
    · exact (c _ _ (by omega)).trans hu.pc.p2
    · exact (c _ _ (by omega)).trans hu.pc.p3
    · exact (c _ _ (by omega)).trans hu.pc.c0
    · exact (c _ _ (by omega)).trans hu.pc.c1
    · exact (c _ _ (by omega)).trans hu.pc.c2
    · exact (c _ _ (by omega)).trans hu.pc.c3
    · have := hu.pc.sz; simpa [World.setCell] using this
theorem AskAt.setv {w0 w : World} {k l v b a n : Int} {x y : Value} {g : Nat} (h : AskAt w0 k l v b a n x y w) (hg : w0.heap.size + 1 + 1 + 1 < g) (hv : Has w g 32 [.bool false, .int .i64 0, .int .i64 0, .int .i64 0]) (v0 v1 v2 v3 : Value) :
    AskAt w0 k l v b a n x y ((((w.setCell ⟨g, 0, none⟩ v0).setCell ⟨g, 1, none⟩ v1).setCell ⟨g, 2, none⟩ v2).setCell ⟨g, 3, none⟩ v3) ∧ Has ((((w.setCell ⟨g, 0, none⟩ v0).setCell ⟨g, 1, none⟩ v1).setCell ⟨g, 2, none⟩ v2).setCell ⟨g, 3, none⟩ v3) g 32 [v0, v1, v2, v3] := by
  refine ⟨(((h.set hg 0 v0).set hg 1 v1).set hg 2 v2).set hg 3 v3, ?_⟩
  have h4 := (((hv.store 0 v0).store 1 v1).store 2 v2).store 3 v3
  simpa using h4
/-- The two results, the verdict first. -/
theorem AskAt.put2 {w0 w : World} {k l v b a n : Int} {x y : Value} (h : AskAt w0 k l v b a n x y w) (c0 c1 c2 c3 v0 v1 v2 v3 : Value) :
    Below w0.heap.size w0 ((((((((w.setCell ⟨w0.heap.size + 1 + 1 + 1, 0, none⟩ v0).setCell ⟨w0.heap.size + 1 + 1 + 1, 1, none⟩ v1).setCell ⟨w0.heap.size + 1 + 1 + 1, 2, none⟩ v2).setCell ⟨w0.heap.size + 1 + 1 + 1, 3, none⟩ v3).setCell ⟨w0.heap.size + 1 + 1, 0, none⟩ c0).setCell ⟨w0.heap.size + 1 + 1, 1, none⟩ c1).setCell ⟨w0.heap.size + 1 + 1, 2, none⟩ c2).setCell ⟨w0.heap.size + 1 + 1, 3, none⟩ c3) :=
  (((((((h.pc.be.setCell (p := ⟨_, 0, none⟩) (le3 _) _).setCell (p := ⟨_, 1, none⟩) (le3 _) _).setCell (p := ⟨_, 2, none⟩) (le3 _) _).setCell (p := ⟨_, 3, none⟩) (le3 _) _).setCell (p := ⟨_, 0, none⟩) (le2 _) _).setCell (p := ⟨_, 1, none⟩) (le2 _) _).setCell (p := ⟨_, 2, none⟩) (le2 _) _).setCell (p := ⟨_, 3, none⟩) (le2 _) _
theorem AskAt.sz {w0 w : World} {k l v b a n : Int} {x y : Value} (h : AskAt w0 k l v b a n x y w) : w0.heap.size + 1 + 1 + 1 < w.heap.size := h.rv.lt

section
variable {w0 w w' : World} {k l v b a n : Int} {x y : Value}
theorem AskAt.szD (h : AskAt w0 k l v b a n x y w.drew) : w0.heap.size + 1 + 1 + 1 < w.heap.size := h.rv.lt
theorem AskAt.stepA (h : AskAt w0 k l v b a n x y w) (hb : Below (w.alloc (.cells #[.bool false, .int .i64 0, .int .i64 0, .int .i64 0] 32)).heap.size (w.alloc (.cells #[.bool false, .int .i64 0, .int .i64 0, .int .i64 0] 32)) w') : AskAt w0 k l v b a n x y w' := (h.alloc _).step hb
theorem AskAt.stepD (h : AskAt w0 k l v b a n x y w.drew) (hb : Below (w.alloc (.cells #[.bool false, .int .i64 0, .int .i64 0, .int .i64 0] 32)).drew.heap.size (w.alloc (.cells #[.bool false, .int .i64 0, .int .i64 0, .int .i64 0] 32)).drew w') : AskAt w0 k l v b a n x y w' := (h.alloc (.cells #[.bool false, .int .i64 0, .int .i64 0, .int .i64 0] 32)).step hb
theorem ver_new (hb : Below (w.alloc (.cells #[.bool false, .int .i64 0, .int .i64 0, .int .i64 0] 32)).heap.size (w.alloc (.cells #[.bool false, .int .i64 0, .int .i64 0, .int .i64 0] 32)) w') : Has w' w.heap.size 32 [.bool false, .int .i64 0, .int .i64 0, .int .i64 0] := (Has.made w 32 [.bool false, .int .i64 0, .int .i64 0, .int .i64 0]).below hb (by simp)
theorem ver_newD (hb : Below (w.alloc (.cells #[.bool false, .int .i64 0, .int .i64 0, .int .i64 0] 32)).drew.heap.size (w.alloc (.cells #[.bool false, .int .i64 0, .int .i64 0, .int .i64 0] 32)).drew w') : Has w' w.heap.size 32 [.bool false, .int .i64 0, .int .i64 0, .int .i64 0] := (Has.made w 32 [.bool false, .int .i64 0, .int .i64 0, .int .i64 0]).below (w := w.alloc (.cells #[.bool false, .int .i64 0, .int .i64 0, .int .i64 0] 32)) ⟨hb.os, hb.tape, hb.output, hb.size, hb.block⟩ (by simp)
theorem ver_cells {g : Nat} (h : Has w g 32 [.bool false, .int .i64 0, .int .i64 0, .int .i64 0]) : w.cell? ⟨g, 0, none⟩ = some (.bool false) ∧ w.cell? ⟨g, 1, none⟩ = some (.int .i64 0) ∧ w.cell? ⟨g, 2, none⟩ = some (.int .i64 0) ∧ w.cell? ⟨g, 3, none⟩ = some (.int .i64 0) ∧ ∀ i, w.frozen? ⟨g, i, none⟩ = false := ⟨h.cell 0, h.cell 1, h.cell 2, h.cell 3, h.loose⟩
theorem ver_step {g : Nat} (h : Has w g 32 [.bool false, .int .i64 0, .int .i64 0, .int .i64 0]) (hb : Below w.heap.size w w') : Has w' g 32 [.bool false, .int .i64 0, .int .i64 0, .int .i64 0] := h.below hb h.lt
end

set_option maxRecDepth 100000 in
set_option maxHeartbeats 4000000 in
theorem Ask_al (k l v b a n t m T R Q M : Int) (sa ha : Option Addr) (sn sc hn hc : Nat) (w : World) (h : MayG k l v b a n sn hn) (t1 : 0 ≤ t) (t2 : t ≤ 1099511627776) (m1 : 1 ≤ m) (m2 : m ≤ 1048576)
    (hT : tmax t a = T) (hR : levG l a n T = R) (hQ : m * v = Q) (hM : l * v = M) (hq : R + Q ≤ M) (hl : m ≤ l) :
    Calls Try.prog 10 #[.agg #[.int .i64 k, .int .i64 l, .int .i64 v, .int .i64 b], .agg #[.int .i64 a, .int .i64 n, .slice sa sn sc, .slice ha hn hc], .int .i64 t, .int .i64 m] w fun e w' => e = .returned (.tuple #[.agg #[.int .i64 T, .int .i64 (R + Q), .slice none 0 0, .slice none 0 0], .agg #[.bool true, .int .i64 ((M - (R + Q)) / v), .int .i64 (upS 0 l), .int .i64 (upS (R + Q) l)]]) ∧ Below w.heap.size w w' := by
  have MK := Lib.hid (fun u => May_yes k l v b a n sa ha sn sc hn hc u h)
  have TK := Lib.hid (fun u => isTick_yes t u t1 t2)
  have WK := Lib.hid (fun u => Weighs_yes m u m1 m2)
  obtain ⟨l1, l2, v1, v2⟩ := h.1.lv
  obtain ⟨x1, x2⟩ := h.1.M
  obtain ⟨hp, hk, ⟨ha1, ha2⟩, hn1, hn2, hs, hh⟩ := h
  have tb : a ≤ T ∧ T ≤ 1099511627776 := by rw [← hT]; unfold tmax; split <;> omega
  have tmm : (t < a ∧ T = a) ∨ (a ≤ t ∧ T = t) := by rw [← hT]; unfold tmax; split <;> omega
  have LV := Lib.hid (fun u => level_any k l v b a n T sa ha sn sc hn hc u ha1 tb.1 tb.2 hn1 (by omega) (by omega) l2)
  have rb := levG_bd (l := l) hn1 tb.1 (by omega)
  have WO := Lib.hid (fun u => worth_any k l v b m u (by omega) m2 (by omega) v2)
  have qb := prod_bd (show 0 ≤ m by omega) m2 (show 0 ≤ v by omega) v2
  have FU := Lib.hid (fun u => full_any k l v b u (by omega) l2 (by omega) v2)
  rw [hR] at LV rb
  rw [hQ] at WO qb
  rw [hM] at FU x1 x2 hn2
  obtain ⟨rb1, rb2⟩ := rb
  obtain ⟨qb1, qb2⟩ := qb
  have LS1 := Lib.hid (fun u => less_any (R + Q) M u (by unfold U64; omega) (by unfold U64; omega))
  have LS2 := Lib.hid (fun u => less_any M (R + Q) u (by unfold U64; omega) (by unfold U64; omega))
  rw [show subS (R + Q) M = 0 by unfold subS; split <;> omega] at LS1
  rw [show subS M (R + Q) = M - (R + Q) by unfold subS; split <;> omega] at LS2
  have WT := Lib.hid (fun u => weight_any (M - (R + Q)) k l v b u (by omega) (by omega) v1 v2)
  have LO := Lib.hid (fun u => lasts_any 0 k l v b u (by omega) (by omega) l1 l2)
  have LH := Lib.hid (fun u => lasts_any (R + Q) k l v b u (by omega) (by omega) l1 l2)
  have HP := Lib.hid (AskAt.made w k l v b a n (.slice sa sn sc) (.slice ha hn hc))
  clear hp hk hs hh hT hR hQ hM tb
  generalize upS (R + Q) l = RS at *
  generalize (M - (R + Q)) / v = RM at *
  generalize upS 0 l = RT at *

  go_enter Try.func10, Try.ntmps10
  go_wp2_with fail
  refine (MK.out _).mono ?_; rintro e w1 ⟨rfl, hb⟩
  have hp := HP.out.step hb
  have z0 := hp.pc.p0
  have z4 := hp.pc.c0
  have z1 := hp.pc.p1
  have z5 := hp.pc.c1
  have z2 := hp.pc.p2
  have z6 := hp.pc.c2
  have z3 := hp.pc.p3
  have z7 := hp.pc.c3
  have HQ := Lib.hid hp
  have HD := Lib.hid hp.drew
  clear hp hb HP MK
  go_wp2_with fail
  refine (TK.out _).mono ?_; rintro e w' ⟨rfl, rfl⟩
  go_wp2_with fail
  refine (WK.out _).mono ?_; rintro e w' ⟨rfl, rfl⟩
  go_upto_region 3 with (fail)
  go_cut [2] (fun s2 wx => s2 = .int .i64 T ∧ wx = w1)
  case first =>
    rcases tmm with ⟨q1, q2⟩ | ⟨q1, q2⟩
    · go_upto_region 4 with (fail)
      all_goals (go_meet; exact ⟨by rw [q2], rfl⟩)
    · go_upto_region 4 with (fail)
      all_goals (go_meet; exact ⟨by rw [q2], rfl⟩)
  case rest =>
  obtain ⟨rfl, rfl⟩ := hcut
  clear tmm
  go_upto_region 4 with (fail)
  go_cut [10, 11] (fun s10 s11 wx => s10 = .int .u64 R ∧ s11 = .int .u64 Q ∧ AskAt w k l v b a n (.slice sa sn sc) (.slice ha hn hc) wx)
  case first =>
    go_region_held3 (fun w' => w'.cell? ⟨w.heap.size, 0, none⟩ = some (.int .i64 k) ∧ w'.cell? ⟨w.heap.size, 1, none⟩ = some (.int .i64 l) ∧ w'.cell? ⟨w.heap.size, 2, none⟩ = some (.int .i64 v) ∧ w'.cell? ⟨w.heap.size, 3, none⟩ = some (.int .i64 b) ∧ w'.cell? ⟨w.heap.size + 1, 0, none⟩ = some (.int .i64 a) ∧ w'.cell? ⟨w.heap.size + 1, 1, none⟩ = some (.int .i64 n) ∧ w'.cell? ⟨w.heap.size + 1, 2, none⟩ = some (.slice sa sn sc) ∧ w'.cell? ⟨w.heap.size + 1, 3, none⟩ = some (.slice ha hn hc)) (first | exact ⟨z0, z1, z2, z3, z4, z5, z6, z7⟩ | exact ⟨a0, a1, a2, a3, a4, a5, a6, a7⟩ | exact ⟨b0, b1, b2, b3, b4, b5, b6, b7⟩ | go_keep) (first | (go_at_call 23; refine (LV.out _).mono ?_; rintro e wa ⟨rfl, hb1⟩; have hp1 := HD.out.step hb1; have G1 := Lib.hid hp1; have a0 := hp1.pc.p0; have a1 := hp1.pc.p1; have a2 := hp1.pc.p2; have a3 := hp1.pc.p3; have a4 := hp1.pc.c0; have a5 := hp1.pc.c1; have a6 := hp1.pc.c2; have a7 := hp1.pc.c3; clear hb1 hp1) | (go_at_call 24; refine (WO.out _).mono ?_; rintro e wb ⟨rfl, hb2⟩; have hp2 := G1.out.step hb2; have G2 := Lib.hid hp2; have b0 := hp2.pc.p0; have b1 := hp2.pc.p1; have b2 := hp2.pc.p2; have b3 := hp2.pc.p3; have b4 := hp2.pc.c0; have b5 := hp2.pc.c1; have b6 := hp2.pc.c2; have b7 := hp2.pc.c3; clear hb2 hp2))
    all_goals (go_wp2_with fail; go_meet; exact ⟨rfl, rfl, G2.out⟩)
  case rest =>
  clear z0 z1 z2 z3 z4 z5 z6 z7 HQ HD LV WO
  obtain ⟨rfl, rfl, hp⟩ := hcut
  have z0 := hp.pc.p0
  have z4 := hp.pc.c0
  have z1 := hp.pc.p1
  have z5 := hp.pc.c1
  have z2 := hp.pc.p2
  have z6 := hp.pc.c2
  have z3 := hp.pc.p3
  have z7 := hp.pc.c3
  have HQ := Lib.hid hp
  clear hp
  go_wp2_with fail
  refine (FU.out _).mono ?_; rintro e w3 ⟨rfl, hb⟩
  have hp := HQ.out.step hb
  clear z0 z1 z2 z3 z4 z5 z6 z7 HQ hb
  have z0 := hp.pc.p0
  have z4 := hp.pc.c0
  have z1 := hp.pc.p1
  have z5 := hp.pc.c1
  have z2 := hp.pc.p2
  have z6 := hp.pc.c2
  have z3 := hp.pc.p3
  have z7 := hp.pc.c3
  have HE := Lib.hid hp.drew
  have H0 := Lib.hid hp
  clear hp
  go_wp2_with fail
  refine (LS1.out _).mono ?_; rintro e w' ⟨rfl, rfl⟩
  go_upto_region 8 with (fail)
  go_cut [13] (fun s13 wx => ∃ g : Nat, s13 = .pointer (some ⟨g, 0, none⟩) ∧ VerAt w k l v b a n (.slice sa sn sc) (.slice ha hn hc) g true RM RT RS wx)
  case first =>
    go_region_held3 (fun w' => w'.cell? ⟨w.heap.size, 0, none⟩ = some (.int .i64 k) ∧ w'.cell? ⟨w.heap.size, 1, none⟩ = some (.int .i64 l) ∧ w'.cell? ⟨w.heap.size, 2, none⟩ = some (.int .i64 v) ∧ w'.cell? ⟨w.heap.size, 3, none⟩ = some (.int .i64 b) ∧ w'.cell? ⟨w.heap.size + 1, 0, none⟩ = some (.int .i64 a) ∧ w'.cell? ⟨w.heap.size + 1, 1, none⟩ = some (.int .i64 n) ∧ w'.cell? ⟨w.heap.size + 1, 2, none⟩ = some (.slice sa sn sc) ∧ w'.cell? ⟨w.heap.size + 1, 3, none⟩ = some (.slice ha hn hc)) (first | (with_reducible exact ⟨HE.out.pc.p0, HE.out.pc.p1, HE.out.pc.p2, HE.out.pc.p3, HE.out.pc.c0, HE.out.pc.c1, HE.out.pc.c2, HE.out.pc.c3⟩) | (with_reducible exact ⟨(HE.out.alloc _).pc.p0, (HE.out.alloc _).pc.p1, (HE.out.alloc _).pc.p2, (HE.out.alloc _).pc.p3, (HE.out.alloc _).pc.c0, (HE.out.alloc _).pc.c1, (HE.out.alloc _).pc.c2, (HE.out.alloc _).pc.c3⟩) | (with_reducible exact ⟨H1.out.pc.p0, H1.out.pc.p1, H1.out.pc.p2, H1.out.pc.p3, H1.out.pc.c0, H1.out.pc.c1, H1.out.pc.c2, H1.out.pc.c3⟩) | (with_reducible exact ⟨(H1.out.alloc _).pc.p0, (H1.out.alloc _).pc.p1, (H1.out.alloc _).pc.p2, (H1.out.alloc _).pc.p3, (H1.out.alloc _).pc.c0, (H1.out.alloc _).pc.c1, (H1.out.alloc _).pc.c2, (H1.out.alloc _).pc.c3⟩) | (with_reducible exact ⟨H2.out.pc.p0, H2.out.pc.p1, H2.out.pc.p2, H2.out.pc.p3, H2.out.pc.c0, H2.out.pc.c1, H2.out.pc.c2, H2.out.pc.c3⟩) | (with_reducible exact ⟨(H2.out.alloc _).pc.p0, (H2.out.alloc _).pc.p1, (H2.out.alloc _).pc.p2, (H2.out.alloc _).pc.p3, (H2.out.alloc _).pc.c0, (H2.out.alloc _).pc.c1, (H2.out.alloc _).pc.c2, (H2.out.alloc _).pc.c3⟩) | (with_reducible exact ⟨H3.out.pc.p0, H3.out.pc.p1, H3.out.pc.p2, H3.out.pc.p3, H3.out.pc.c0, H3.out.pc.c1, H3.out.pc.c2, H3.out.pc.c3⟩) | (with_reducible exact ⟨(H3.out.alloc _).pc.p0, (H3.out.alloc _).pc.p1, (H3.out.alloc _).pc.p2, (H3.out.alloc _).pc.p3, (H3.out.alloc _).pc.c0, (H3.out.alloc _).pc.c1, (H3.out.alloc _).pc.c2, (H3.out.alloc _).pc.c3⟩) | (with_reducible exact ⟨H4.out.pc.p0, H4.out.pc.p1, H4.out.pc.p2, H4.out.pc.p3, H4.out.pc.c0, H4.out.pc.c1, H4.out.pc.c2, H4.out.pc.c3⟩) | (with_reducible exact ⟨(H4.out.alloc _).pc.p0, (H4.out.alloc _).pc.p1, (H4.out.alloc _).pc.p2, (H4.out.alloc _).pc.p3, (H4.out.alloc _).pc.c0, (H4.out.alloc _).pc.c1, (H4.out.alloc _).pc.c2, (H4.out.alloc _).pc.c3⟩) | (with_reducible exact ⟨(H0.out.alloc _).drew.pc.p0, (H0.out.alloc _).drew.pc.p1, (H0.out.alloc _).drew.pc.p2, (H0.out.alloc _).drew.pc.p3, (H0.out.alloc _).drew.pc.c0, (H0.out.alloc _).drew.pc.c1, (H0.out.alloc _).drew.pc.c2, (H0.out.alloc _).drew.pc.c3⟩) | (with_reducible exact ⟨(H4.out.setv G4.out V4.out _ _ _ _).1.pc.p0, (H4.out.setv G4.out V4.out _ _ _ _).1.pc.p1, (H4.out.setv G4.out V4.out _ _ _ _).1.pc.p2, (H4.out.setv G4.out V4.out _ _ _ _).1.pc.p3, (H4.out.setv G4.out V4.out _ _ _ _).1.pc.c0, (H4.out.setv G4.out V4.out _ _ _ _).1.pc.c1, (H4.out.setv G4.out V4.out _ _ _ _).1.pc.c2, (H4.out.setv G4.out V4.out _ _ _ _).1.pc.c3⟩) | go_keep) (first | (go_at_call 26; (with_reducible refine (FU.out _).mono ?_); rintro e wa ⟨rfl, hb⟩; first | ((with_reducible have hp := HE.out.stepD hb); (with_reducible have hv := ver_newD hb); have G1 := Lib.hid HE.out.szD; obtain ⟨e0, e1, e2, e3, ef⟩ := ver_cells hv; have V1 := Lib.hid hv; have H1 := Lib.hid hp; have a0 := hp.pc.p0; have a1 := hp.pc.p1; have a2 := hp.pc.p2; have a3 := hp.pc.p3; have a4 := hp.pc.c0; have a5 := hp.pc.c1; have a6 := hp.pc.c2; have a7 := hp.pc.c3; clear hb hp hv) | ((with_reducible have hp := HE.out.stepA hb); (with_reducible have hv := ver_new hb); have G1 := Lib.hid HE.out.sz; obtain ⟨e0, e1, e2, e3, ef⟩ := ver_cells hv; have V1 := Lib.hid hv; have H1 := Lib.hid hp; have a0 := hp.pc.p0; have a1 := hp.pc.p1; have a2 := hp.pc.p2; have a3 := hp.pc.p3; have a4 := hp.pc.c0; have a5 := hp.pc.c1; have a6 := hp.pc.c2; have a7 := hp.pc.c3; clear hb hp hv) | ((with_reducible have hp := HE.out.step hb); have H1 := Lib.hid hp; have a0 := hp.pc.p0; have a1 := hp.pc.p1; have a2 := hp.pc.p2; have a3 := hp.pc.p3; have a4 := hp.pc.c0; have a5 := hp.pc.c1; have a6 := hp.pc.c2; have a7 := hp.pc.c3; clear hb hp)) | (go_at_call 25; refine (LS2.out _).mono ?_; rintro e w' ⟨rfl, rfl⟩) | (go_at_call 27; (with_reducible refine (WT.out _).mono ?_); rintro e wb ⟨rfl, hb⟩; first | ((with_reducible have hp := H1.out.step hb); (with_reducible have hv := ver_step V1.out hb); have G2 := Lib.hid G1.out; clear e0 e1 e2 e3 ef V1; obtain ⟨e0, e1, e2, e3, ef⟩ := ver_cells hv; have V2 := Lib.hid hv; have H2 := Lib.hid hp; have b0 := hp.pc.p0; have b1 := hp.pc.p1; have b2 := hp.pc.p2; have b3 := hp.pc.p3; have b4 := hp.pc.c0; have b5 := hp.pc.c1; have b6 := hp.pc.c2; have b7 := hp.pc.c3; clear hb hp hv) | ((with_reducible have hp := H1.out.stepA hb); (with_reducible have hv := ver_new hb); have G2 := Lib.hid H1.out.sz; obtain ⟨e0, e1, e2, e3, ef⟩ := ver_cells hv; have V2 := Lib.hid hv; have H2 := Lib.hid hp; have b0 := hp.pc.p0; have b1 := hp.pc.p1; have b2 := hp.pc.p2; have b3 := hp.pc.p3; have b4 := hp.pc.c0; have b5 := hp.pc.c1; have b6 := hp.pc.c2; have b7 := hp.pc.c3; clear hb hp hv) | ((with_reducible have hp := H1.out.step hb); have H2 := Lib.hid hp; have b0 := hp.pc.p0; have b1 := hp.pc.p1; have b2 := hp.pc.p2; have b3 := hp.pc.p3; have b4 := hp.pc.c0; have b5 := hp.pc.c1; have b6 := hp.pc.c2; have b7 := hp.pc.c3; clear hb hp)) | (go_at_call 28; (with_reducible refine (LO.out _).mono ?_); rintro e wc ⟨rfl, hb⟩; first | ((with_reducible have hp := H2.out.step hb); (with_reducible have hv := ver_step V2.out hb); have G3 := Lib.hid G2.out; clear e0 e1 e2 e3 ef V2; obtain ⟨e0, e1, e2, e3, ef⟩ := ver_cells hv; have V3 := Lib.hid hv; have H3 := Lib.hid hp; have c0 := hp.pc.p0; have c1 := hp.pc.p1; have c2 := hp.pc.p2; have c3 := hp.pc.p3; have c4 := hp.pc.c0; have c5 := hp.pc.c1; have c6 := hp.pc.c2; have c7 := hp.pc.c3; clear hb hp hv) | ((with_reducible have hp := H2.out.stepA hb); (with_reducible have hv := ver_new hb); have G3 := Lib.hid H2.out.sz; obtain ⟨e0, e1, e2, e3, ef⟩ := ver_cells hv; have V3 := Lib.hid hv; have H3 := Lib.hid hp; have c0 := hp.pc.p0; have c1 := hp.pc.p1; have c2 := hp.pc.p2; have c3 := hp.pc.p3; have c4 := hp.pc.c0; have c5 := hp.pc.c1; have c6 := hp.pc.c2; have c7 := hp.pc.c3; clear hb hp hv) | ((with_reducible have hp := H2.out.step hb); have H3 := Lib.hid hp; have c0 := hp.pc.p0; have c1 := hp.pc.p1; have c2 := hp.pc.p2; have c3 := hp.pc.p3; have c4 := hp.pc.c0; have c5 := hp.pc.c1; have c6 := hp.pc.c2; have c7 := hp.pc.c3; clear hb hp)) | (go_at_call 28; (with_reducible refine (LH.out _).mono ?_); rintro e wd ⟨rfl, hb⟩; first | ((with_reducible have hp := H3.out.step hb); (with_reducible have hv := ver_step V3.out hb); have G4 := Lib.hid G3.out; clear e0 e1 e2 e3 ef V3; obtain ⟨e0, e1, e2, e3, ef⟩ := ver_cells hv; have V4 := Lib.hid hv; have H4 := Lib.hid hp; have d0 := hp.pc.p0; have d1 := hp.pc.p1; have d2 := hp.pc.p2; have d3 := hp.pc.p3; have d4 := hp.pc.c0; have d5 := hp.pc.c1; have d6 := hp.pc.c2; have d7 := hp.pc.c3; clear hb hp hv) | ((with_reducible have hp := H3.out.stepA hb); (with_reducible have hv := ver_new hb); have G4 := Lib.hid H3.out.sz; obtain ⟨e0, e1, e2, e3, ef⟩ := ver_cells hv; have V4 := Lib.hid hv; have H4 := Lib.hid hp; have d0 := hp.pc.p0; have d1 := hp.pc.p1; have d2 := hp.pc.p2; have d3 := hp.pc.p3; have d4 := hp.pc.c0; have d5 := hp.pc.c1; have d6 := hp.pc.c2; have d7 := hp.pc.c3; clear hb hp hv) | ((with_reducible have hp := H3.out.step hb); have H4 := Lib.hid hp; have d0 := hp.pc.p0; have d1 := hp.pc.p1; have d2 := hp.pc.p2; have d3 := hp.pc.p3; have d4 := hp.pc.c0; have d5 := hp.pc.c1; have d6 := hp.pc.c2; have d7 := hp.pc.c3; clear hb hp)))
    all_goals (go_wp2_with fail; go_meet; first | exact ⟨_, rfl, H4.out.alloc _, Has.made _ _ _, H4.out.sz⟩ | exact ⟨_, rfl, (H4.out.setv G4.out V4.out _ _ _ _).1, (H4.out.setv G4.out V4.out _ _ _ _).2, G4.out⟩)
  case rest =>
  clear z0 z1 z2 z3 z4 z5 z6 z7 HE
  obtain ⟨g, rfl, hp, hv, hg⟩ := hcut
  have z0 := hp.pc.p0
  have z4 := hp.pc.c0
  have z1 := hp.pc.p1
  have z5 := hp.pc.c1
  have z2 := hp.pc.p2
  have z6 := hp.pc.c2
  have z3 := hp.pc.p3
  have z7 := hp.pc.c3
  obtain ⟨r0, r1, r2, r3, r4, r5, r6, r7, r8, r9⟩ := hp.res
  have y0 := hv.cell 0
  have y1 := hv.cell 1
  have y2 := hv.cell 2
  have y3 := hv.cell 3
  have y4 := hv.loose 2
  simp at y0 y1 y2 y3
  have g0 : g ≠ w.heap.size + 1 + 1 := by omega
  have g1 : g ≠ w.heap.size + 1 + 1 + 1 := by omega
  have g2 : w.heap.size + 1 + 1 ≠ g := by omega
  have g3 : w.heap.size + 1 + 1 + 1 ≠ g := by omega
  have HF := Lib.hid hp
  have HV := Lib.hid hv
  have HG := Lib.hid hg
  clear hp hv
  go_wp2_with fail
  go_region
  all_goals go_wp2_with fail
  all_goals refine bodyPost_ret (v := .tuple #[.agg #[.int .i64 T, .int .i64 (R + Q), .slice none 0 0, .slice none 0 0], .agg #[.bool true, .int .i64 RM, .int .i64 RT, .int .i64 RS]]) (by simp [results, Try.results10, go_sem, r0, r1, r2, r3, r4, r5, r6, r7]) rfl ⟨rfl, ?_⟩
  all_goals first | (with_reducible exact (HF.out.drew).put _ _ _ _ _ _ _ _) | (with_reducible exact (HF.out.drew).put2 _ _ _ _ _ _ _ _) | (with_reducible exact HF.out.put _ _ _ _ _ _ _ _) | (with_reducible exact HF.out.put2 _ _ _ _ _ _ _ _) | (with_reducible exact (HF.out.put _ _ _ _ _ _ _ _).drew) | (with_reducible exact (HF.out.put2 _ _ _ _ _ _ _ _).drew)

set_option maxRecDepth 100000 in
set_option maxHeartbeats 4000000 in
theorem Ask_re (k l v b a n t m T R Q M : Int) (sa ha : Option Addr) (sn sc hn hc : Nat) (w : World) (h : MayG k l v b a n sn hn) (t1 : 0 ≤ t) (t2 : t ≤ 1099511627776) (m1 : 1 ≤ m) (m2 : m ≤ 1048576)
    (hT : tmax t a = T) (hR : levG l a n T = R) (hQ : m * v = Q) (hM : l * v = M) (hq : M < R + Q) (hl : m ≤ l) :
    Calls Try.prog 10 #[.agg #[.int .i64 k, .int .i64 l, .int .i64 v, .int .i64 b], .agg #[.int .i64 a, .int .i64 n, .slice sa sn sc, .slice ha hn hc], .int .i64 t, .int .i64 m] w fun e w' => e = .returned (.tuple #[.agg #[.int .i64 T, .int .i64 R, .slice none 0 0, .slice none 0 0], .agg #[.bool false, .int .i64 ((M - R) / v), .int .i64 (upS (R + Q - M) l), .int .i64 (upS R l)]]) ∧ Below w.heap.size w w' := by
  have MK := Lib.hid (fun u => May_yes k l v b a n sa ha sn sc hn hc u h)
  have TK := Lib.hid (fun u => isTick_yes t u t1 t2)
  have WK := Lib.hid (fun u => Weighs_yes m u m1 m2)
  obtain ⟨l1, l2, v1, v2⟩ := h.1.lv
  obtain ⟨x1, x2⟩ := h.1.M
  obtain ⟨hp, hk, ⟨ha1, ha2⟩, hn1, hn2, hs, hh⟩ := h
  have tb : a ≤ T ∧ T ≤ 1099511627776 := by rw [← hT]; unfold tmax; split <;> omega
  have tmm : (t < a ∧ T = a) ∨ (a ≤ t ∧ T = t) := by rw [← hT]; unfold tmax; split <;> omega
  have LV := Lib.hid (fun u => level_any k l v b a n T sa ha sn sc hn hc u ha1 tb.1 tb.2 hn1 (by omega) (by omega) l2)
  have rb := levG_bd (l := l) hn1 tb.1 (by omega)
  have WO := Lib.hid (fun u => worth_any k l v b m u (by omega) m2 (by omega) v2)
  have qb := prod_bd (show 0 ≤ m by omega) m2 (show 0 ≤ v by omega) v2
  have FU := Lib.hid (fun u => full_any k l v b u (by omega) l2 (by omega) v2)
  rw [hR] at LV rb
  rw [hQ] at WO qb
  rw [hM] at FU x1 x2 hn2
  obtain ⟨rb1, rb2⟩ := rb
  obtain ⟨qb1, qb2⟩ := qb
  have LS1 := Lib.hid (fun u => less_any (R + Q) M u (by unfold U64; omega) (by unfold U64; omega))
  have LS2 := Lib.hid (fun u => less_any M R u (by unfold U64; omega) (by unfold U64; omega))
  rw [show subS (R + Q) M = (R + Q - M) by unfold subS; split <;> omega] at LS1
  rw [show subS M R = M - R by unfold subS; split <;> omega] at LS2
  have WT := Lib.hid (fun u => weight_any (M - R) k l v b u (by omega) (by omega) v1 v2)
  have LO := Lib.hid (fun u => lasts_any (R + Q - M) k l v b u (by omega) (by omega) l1 l2)
  have LH := Lib.hid (fun u => lasts_any R k l v b u (by omega) (by omega) l1 l2)
  have HP := Lib.hid (AskAt.made w k l v b a n (.slice sa sn sc) (.slice ha hn hc))
  clear hp hk hs hh hT hR hQ hM tb
  generalize upS R l = RS at *
  generalize (M - R) / v = RM at *
  generalize upS (R + Q - M) l = RT at *
  have ov : (R + Q - M == 0) = false := by simp; omega
  go_enter Try.func10, Try.ntmps10
  go_wp2_with fail
  refine (MK.out _).mono ?_; rintro e w1 ⟨rfl, hb⟩
  have hp := HP.out.step hb
  have z0 := hp.pc.p0
  have z4 := hp.pc.c0
  have z1 := hp.pc.p1
  have z5 := hp.pc.c1
  have z2 := hp.pc.p2
  have z6 := hp.pc.c2
  have z3 := hp.pc.p3
  have z7 := hp.pc.c3
  have HQ := Lib.hid hp
  have HD := Lib.hid hp.drew
  clear hp hb HP MK
  go_wp2_with fail
  refine (TK.out _).mono ?_; rintro e w' ⟨rfl, rfl⟩
  go_wp2_with fail
  refine (WK.out _).mono ?_; rintro e w' ⟨rfl, rfl⟩
  go_upto_region 3 with (fail)
  go_cut [2] (fun s2 wx => s2 = .int .i64 T ∧ wx = w1)
  case first =>
    rcases tmm with ⟨q1, q2⟩ | ⟨q1, q2⟩
    · go_upto_region 4 with (fail)
      all_goals (go_meet; exact ⟨by rw [q2], rfl⟩)
    · go_upto_region 4 with (fail)
      all_goals (go_meet; exact ⟨by rw [q2], rfl⟩)
  case rest =>
  obtain ⟨rfl, rfl⟩ := hcut
  clear tmm
  go_upto_region 4 with (fail)
  go_cut [10, 11] (fun s10 s11 wx => s10 = .int .u64 R ∧ s11 = .int .u64 Q ∧ AskAt w k l v b a n (.slice sa sn sc) (.slice ha hn hc) wx)
  case first =>
    go_region_held3 (fun w' => w'.cell? ⟨w.heap.size, 0, none⟩ = some (.int .i64 k) ∧ w'.cell? ⟨w.heap.size, 1, none⟩ = some (.int .i64 l) ∧ w'.cell? ⟨w.heap.size, 2, none⟩ = some (.int .i64 v) ∧ w'.cell? ⟨w.heap.size, 3, none⟩ = some (.int .i64 b) ∧ w'.cell? ⟨w.heap.size + 1, 0, none⟩ = some (.int .i64 a) ∧ w'.cell? ⟨w.heap.size + 1, 1, none⟩ = some (.int .i64 n) ∧ w'.cell? ⟨w.heap.size + 1, 2, none⟩ = some (.slice sa sn sc) ∧ w'.cell? ⟨w.heap.size + 1, 3, none⟩ = some (.slice ha hn hc)) (first | exact ⟨z0, z1, z2, z3, z4, z5, z6, z7⟩ | exact ⟨a0, a1, a2, a3, a4, a5, a6, a7⟩ | exact ⟨b0, b1, b2, b3, b4, b5, b6, b7⟩ | go_keep) (first | (go_at_call 23; refine (LV.out _).mono ?_; rintro e wa ⟨rfl, hb1⟩; have hp1 := HD.out.step hb1; have G1 := Lib.hid hp1; have a0 := hp1.pc.p0; have a1 := hp1.pc.p1; have a2 := hp1.pc.p2; have a3 := hp1.pc.p3; have a4 := hp1.pc.c0; have a5 := hp1.pc.c1; have a6 := hp1.pc.c2; have a7 := hp1.pc.c3; clear hb1 hp1) | (go_at_call 24; refine (WO.out _).mono ?_; rintro e wb ⟨rfl, hb2⟩; have hp2 := G1.out.step hb2; have G2 := Lib.hid hp2; have b0 := hp2.pc.p0; have b1 := hp2.pc.p1; have b2 := hp2.pc.p2; have b3 := hp2.pc.p3; have b4 := hp2.pc.c0; have b5 := hp2.pc.c1; have b6 := hp2.pc.c2; have b7 := hp2.pc.c3; clear hb2 hp2))
    all_goals (go_wp2_with fail; go_meet; exact ⟨rfl, rfl, G2.out⟩)
  case rest =>
  clear z0 z1 z2 z3 z4 z5 z6 z7 HQ HD LV WO
  obtain ⟨rfl, rfl, hp⟩ := hcut
  have z0 := hp.pc.p0
  have z4 := hp.pc.c0
  have z1 := hp.pc.p1
  have z5 := hp.pc.c1
  have z2 := hp.pc.p2
  have z6 := hp.pc.c2
  have z3 := hp.pc.p3
  have z7 := hp.pc.c3
  have HQ := Lib.hid hp
  clear hp
  go_wp2_with fail
  refine (FU.out _).mono ?_; rintro e w3 ⟨rfl, hb⟩
  have hp := HQ.out.step hb
  clear z0 z1 z2 z3 z4 z5 z6 z7 HQ hb
  have z0 := hp.pc.p0
  have z4 := hp.pc.c0
  have z1 := hp.pc.p1
  have z5 := hp.pc.c1
  have z2 := hp.pc.p2
  have z6 := hp.pc.c2
  have z3 := hp.pc.p3
  have z7 := hp.pc.c3
  have HE := Lib.hid hp.drew
  have H0 := Lib.hid hp
  clear hp
  go_wp2_with fail
  refine (LS1.out _).mono ?_; rintro e w' ⟨rfl, rfl⟩
  go_upto_region 8 with (fail)
  go_cut [13] (fun s13 wx => ∃ g : Nat, s13 = .pointer (some ⟨g, 0, none⟩) ∧ VerAt w k l v b a n (.slice sa sn sc) (.slice ha hn hc) g false RM RT RS wx)
  case first =>
    go_region_held3 (fun w' => w'.cell? ⟨w.heap.size, 0, none⟩ = some (.int .i64 k) ∧ w'.cell? ⟨w.heap.size, 1, none⟩ = some (.int .i64 l) ∧ w'.cell? ⟨w.heap.size, 2, none⟩ = some (.int .i64 v) ∧ w'.cell? ⟨w.heap.size, 3, none⟩ = some (.int .i64 b) ∧ w'.cell? ⟨w.heap.size + 1, 0, none⟩ = some (.int .i64 a) ∧ w'.cell? ⟨w.heap.size + 1, 1, none⟩ = some (.int .i64 n) ∧ w'.cell? ⟨w.heap.size + 1, 2, none⟩ = some (.slice sa sn sc) ∧ w'.cell? ⟨w.heap.size + 1, 3, none⟩ = some (.slice ha hn hc)) (first | (with_reducible exact ⟨HE.out.pc.p0, HE.out.pc.p1, HE.out.pc.p2, HE.out.pc.p3, HE.out.pc.c0, HE.out.pc.c1, HE.out.pc.c2, HE.out.pc.c3⟩) | (with_reducible exact ⟨(HE.out.alloc _).pc.p0, (HE.out.alloc _).pc.p1, (HE.out.alloc _).pc.p2, (HE.out.alloc _).pc.p3, (HE.out.alloc _).pc.c0, (HE.out.alloc _).pc.c1, (HE.out.alloc _).pc.c2, (HE.out.alloc _).pc.c3⟩) | (with_reducible exact ⟨H1.out.pc.p0, H1.out.pc.p1, H1.out.pc.p2, H1.out.pc.p3, H1.out.pc.c0, H1.out.pc.c1, H1.out.pc.c2, H1.out.pc.c3⟩) | (with_reducible exact ⟨(H1.out.alloc _).pc.p0, (H1.out.alloc _).pc.p1, (H1.out.alloc _).pc.p2, (H1.out.alloc _).pc.p3, (H1.out.alloc _).pc.c0, (H1.out.alloc _).pc.c1, (H1.out.alloc _).pc.c2, (H1.out.alloc _).pc.c3⟩) | (with_reducible exact ⟨H2.out.pc.p0, H2.out.pc.p1, H2.out.pc.p2, H2.out.pc.p3, H2.out.pc.c0, H2.out.pc.c1, H2.out.pc.c2, H2.out.pc.c3⟩) | (with_reducible exact ⟨(H2.out.alloc _).pc.p0, (H2.out.alloc _).pc.p1, (H2.out.alloc _).pc.p2, (H2.out.alloc _).pc.p3, (H2.out.alloc _).pc.c0, (H2.out.alloc _).pc.c1, (H2.out.alloc _).pc.c2, (H2.out.alloc _).pc.c3⟩) | (with_reducible exact ⟨H3.out.pc.p0, H3.out.pc.p1, H3.out.pc.p2, H3.out.pc.p3, H3.out.pc.c0, H3.out.pc.c1, H3.out.pc.c2, H3.out.pc.c3⟩) | (with_reducible exact ⟨(H3.out.alloc _).pc.p0, (H3.out.alloc _).pc.p1, (H3.out.alloc _).pc.p2, (H3.out.alloc _).pc.p3, (H3.out.alloc _).pc.c0, (H3.out.alloc _).pc.c1, (H3.out.alloc _).pc.c2, (H3.out.alloc _).pc.c3⟩) | (with_reducible exact ⟨H4.out.pc.p0, H4.out.pc.p1, H4.out.pc.p2, H4.out.pc.p3, H4.out.pc.c0, H4.out.pc.c1, H4.out.pc.c2, H4.out.pc.c3⟩) | (with_reducible exact ⟨(H4.out.alloc _).pc.p0, (H4.out.alloc _).pc.p1, (H4.out.alloc _).pc.p2, (H4.out.alloc _).pc.p3, (H4.out.alloc _).pc.c0, (H4.out.alloc _).pc.c1, (H4.out.alloc _).pc.c2, (H4.out.alloc _).pc.c3⟩) | (with_reducible exact ⟨(H0.out.alloc _).drew.pc.p0, (H0.out.alloc _).drew.pc.p1, (H0.out.alloc _).drew.pc.p2, (H0.out.alloc _).drew.pc.p3, (H0.out.alloc _).drew.pc.c0, (H0.out.alloc _).drew.pc.c1, (H0.out.alloc _).drew.pc.c2, (H0.out.alloc _).drew.pc.c3⟩) | (with_reducible exact ⟨(H4.out.setv G4.out V4.out _ _ _ _).1.pc.p0, (H4.out.setv G4.out V4.out _ _ _ _).1.pc.p1, (H4.out.setv G4.out V4.out _ _ _ _).1.pc.p2, (H4.out.setv G4.out V4.out _ _ _ _).1.pc.p3, (H4.out.setv G4.out V4.out _ _ _ _).1.pc.c0, (H4.out.setv G4.out V4.out _ _ _ _).1.pc.c1, (H4.out.setv G4.out V4.out _ _ _ _).1.pc.c2, (H4.out.setv G4.out V4.out _ _ _ _).1.pc.c3⟩) | go_keep) (first | (go_at_call 26; (with_reducible refine (FU.out _).mono ?_); rintro e wa ⟨rfl, hb⟩; first | ((with_reducible have hp := HE.out.stepD hb); (with_reducible have hv := ver_newD hb); have G1 := Lib.hid HE.out.szD; obtain ⟨e0, e1, e2, e3, ef⟩ := ver_cells hv; have V1 := Lib.hid hv; have H1 := Lib.hid hp; have a0 := hp.pc.p0; have a1 := hp.pc.p1; have a2 := hp.pc.p2; have a3 := hp.pc.p3; have a4 := hp.pc.c0; have a5 := hp.pc.c1; have a6 := hp.pc.c2; have a7 := hp.pc.c3; clear hb hp hv) | ((with_reducible have hp := HE.out.stepA hb); (with_reducible have hv := ver_new hb); have G1 := Lib.hid HE.out.sz; obtain ⟨e0, e1, e2, e3, ef⟩ := ver_cells hv; have V1 := Lib.hid hv; have H1 := Lib.hid hp; have a0 := hp.pc.p0; have a1 := hp.pc.p1; have a2 := hp.pc.p2; have a3 := hp.pc.p3; have a4 := hp.pc.c0; have a5 := hp.pc.c1; have a6 := hp.pc.c2; have a7 := hp.pc.c3; clear hb hp hv) | ((with_reducible have hp := HE.out.step hb); have H1 := Lib.hid hp; have a0 := hp.pc.p0; have a1 := hp.pc.p1; have a2 := hp.pc.p2; have a3 := hp.pc.p3; have a4 := hp.pc.c0; have a5 := hp.pc.c1; have a6 := hp.pc.c2; have a7 := hp.pc.c3; clear hb hp)) | (go_at_call 25; refine (LS2.out _).mono ?_; rintro e w' ⟨rfl, rfl⟩) | (go_at_call 27; (with_reducible refine (WT.out _).mono ?_); rintro e wb ⟨rfl, hb⟩; first | ((with_reducible have hp := H1.out.step hb); (with_reducible have hv := ver_step V1.out hb); have G2 := Lib.hid G1.out; clear e0 e1 e2 e3 ef V1; obtain ⟨e0, e1, e2, e3, ef⟩ := ver_cells hv; have V2 := Lib.hid hv; have H2 := Lib.hid hp; have b0 := hp.pc.p0; have b1 := hp.pc.p1; have b2 := hp.pc.p2; have b3 := hp.pc.p3; have b4 := hp.pc.c0; have b5 := hp.pc.c1; have b6 := hp.pc.c2; have b7 := hp.pc.c3; clear hb hp hv) | ((with_reducible have hp := H1.out.stepA hb); (with_reducible have hv := ver_new hb); have G2 := Lib.hid H1.out.sz; obtain ⟨e0, e1, e2, e3, ef⟩ := ver_cells hv; have V2 := Lib.hid hv; have H2 := Lib.hid hp; have b0 := hp.pc.p0; have b1 := hp.pc.p1; have b2 := hp.pc.p2; have b3 := hp.pc.p3; have b4 := hp.pc.c0; have b5 := hp.pc.c1; have b6 := hp.pc.c2; have b7 := hp.pc.c3; clear hb hp hv) | ((with_reducible have hp := H1.out.step hb); have H2 := Lib.hid hp; have b0 := hp.pc.p0; have b1 := hp.pc.p1; have b2 := hp.pc.p2; have b3 := hp.pc.p3; have b4 := hp.pc.c0; have b5 := hp.pc.c1; have b6 := hp.pc.c2; have b7 := hp.pc.c3; clear hb hp)) | (go_at_call 28; (with_reducible refine (LO.out _).mono ?_); rintro e wc ⟨rfl, hb⟩; first | ((with_reducible have hp := H2.out.step hb); (with_reducible have hv := ver_step V2.out hb); have G3 := Lib.hid G2.out; clear e0 e1 e2 e3 ef V2; obtain ⟨e0, e1, e2, e3, ef⟩ := ver_cells hv; have V3 := Lib.hid hv; have H3 := Lib.hid hp; have c0 := hp.pc.p0; have c1 := hp.pc.p1; have c2 := hp.pc.p2; have c3 := hp.pc.p3; have c4 := hp.pc.c0; have c5 := hp.pc.c1; have c6 := hp.pc.c2; have c7 := hp.pc.c3; clear hb hp hv) | ((with_reducible have hp := H2.out.stepA hb); (with_reducible have hv := ver_new hb); have G3 := Lib.hid H2.out.sz; obtain ⟨e0, e1, e2, e3, ef⟩ := ver_cells hv; have V3 := Lib.hid hv; have H3 := Lib.hid hp; have c0 := hp.pc.p0; have c1 := hp.pc.p1; have c2 := hp.pc.p2; have c3 := hp.pc.p3; have c4 := hp.pc.c0; have c5 := hp.pc.c1; have c6 := hp.pc.c2; have c7 := hp.pc.c3; clear hb hp hv) | ((with_reducible have hp := H2.out.step hb); have H3 := Lib.hid hp; have c0 := hp.pc.p0; have c1 := hp.pc.p1; have c2 := hp.pc.p2; have c3 := hp.pc.p3; have c4 := hp.pc.c0; have c5 := hp.pc.c1; have c6 := hp.pc.c2; have c7 := hp.pc.c3; clear hb hp)) | (go_at_call 28; (with_reducible refine (LH.out _).mono ?_); rintro e wd ⟨rfl, hb⟩; first | ((with_reducible have hp := H3.out.step hb); (with_reducible have hv := ver_step V3.out hb); have G4 := Lib.hid G3.out; clear e0 e1 e2 e3 ef V3; obtain ⟨e0, e1, e2, e3, ef⟩ := ver_cells hv; have V4 := Lib.hid hv; have H4 := Lib.hid hp; have d0 := hp.pc.p0; have d1 := hp.pc.p1; have d2 := hp.pc.p2; have d3 := hp.pc.p3; have d4 := hp.pc.c0; have d5 := hp.pc.c1; have d6 := hp.pc.c2; have d7 := hp.pc.c3; clear hb hp hv) | ((with_reducible have hp := H3.out.stepA hb); (with_reducible have hv := ver_new hb); have G4 := Lib.hid H3.out.sz; obtain ⟨e0, e1, e2, e3, ef⟩ := ver_cells hv; have V4 := Lib.hid hv; have H4 := Lib.hid hp; have d0 := hp.pc.p0; have d1 := hp.pc.p1; have d2 := hp.pc.p2; have d3 := hp.pc.p3; have d4 := hp.pc.c0; have d5 := hp.pc.c1; have d6 := hp.pc.c2; have d7 := hp.pc.c3; clear hb hp hv) | ((with_reducible have hp := H3.out.step hb); have H4 := Lib.hid hp; have d0 := hp.pc.p0; have d1 := hp.pc.p1; have d2 := hp.pc.p2; have d3 := hp.pc.p3; have d4 := hp.pc.c0; have d5 := hp.pc.c1; have d6 := hp.pc.c2; have d7 := hp.pc.c3; clear hb hp)))
    all_goals (go_wp2_with fail; go_meet; first | exact ⟨_, rfl, H4.out.alloc _, Has.made _ _ _, H4.out.sz⟩ | exact ⟨_, rfl, (H4.out.setv G4.out V4.out _ _ _ _).1, (H4.out.setv G4.out V4.out _ _ _ _).2, G4.out⟩)
  case rest =>
  clear z0 z1 z2 z3 z4 z5 z6 z7 HE
  obtain ⟨g, rfl, hp, hv, hg⟩ := hcut
  have z0 := hp.pc.p0
  have z4 := hp.pc.c0
  have z1 := hp.pc.p1
  have z5 := hp.pc.c1
  have z2 := hp.pc.p2
  have z6 := hp.pc.c2
  have z3 := hp.pc.p3
  have z7 := hp.pc.c3
  obtain ⟨r0, r1, r2, r3, r4, r5, r6, r7, r8, r9⟩ := hp.res
  have y0 := hv.cell 0
  have y1 := hv.cell 1
  have y2 := hv.cell 2
  have y3 := hv.cell 3
  have y4 := hv.loose 2
  simp at y0 y1 y2 y3
  have g0 : g ≠ w.heap.size + 1 + 1 := by omega
  have g1 : g ≠ w.heap.size + 1 + 1 + 1 := by omega
  have g2 : w.heap.size + 1 + 1 ≠ g := by omega
  have g3 : w.heap.size + 1 + 1 + 1 ≠ g := by omega
  have HF := Lib.hid hp
  have HV := Lib.hid hv
  have HG := Lib.hid hg
  clear hp hv
  go_wp2_with fail
  go_region
  all_goals go_wp2_with fail
  all_goals refine bodyPost_ret (v := .tuple #[.agg #[.int .i64 T, .int .i64 R, .slice none 0 0, .slice none 0 0], .agg #[.bool false, .int .i64 RM, .int .i64 RT, .int .i64 RS]]) (by simp [results, Try.results10, go_sem, r0, r1, r2, r3, r4, r5, r6, r7]) rfl ⟨rfl, ?_⟩
  all_goals first | (with_reducible exact (HF.out.drew).put _ _ _ _ _ _ _ _) | (with_reducible exact (HF.out.drew).put2 _ _ _ _ _ _ _ _) | (with_reducible exact HF.out.put _ _ _ _ _ _ _ _) | (with_reducible exact HF.out.put2 _ _ _ _ _ _ _ _) | (with_reducible exact (HF.out.put _ _ _ _ _ _ _ _).drew) | (with_reducible exact (HF.out.put2 _ _ _ _ _ _ _ _).drew)

set_option maxRecDepth 100000 in
set_option maxHeartbeats 4000000 in
theorem Ask_nv (k l v b a n t m T R Q M : Int) (sa ha : Option Addr) (sn sc hn hc : Nat) (w : World) (h : MayG k l v b a n sn hn) (t1 : 0 ≤ t) (t2 : t ≤ 1099511627776) (m1 : 1 ≤ m) (m2 : m ≤ 1048576)
    (hT : tmax t a = T) (hR : levG l a n T = R) (hQ : m * v = Q) (hM : l * v = M) (hq : M < R + Q) (hl : l < m) :
    Calls Try.prog 10 #[.agg #[.int .i64 k, .int .i64 l, .int .i64 v, .int .i64 b], .agg #[.int .i64 a, .int .i64 n, .slice sa sn sc, .slice ha hn hc], .int .i64 t, .int .i64 m] w fun e w' => e = .returned (.tuple #[.agg #[.int .i64 T, .int .i64 R, .slice none 0 0, .slice none 0 0], .agg #[.bool false, .int .i64 ((M - R) / v), .int .i64 2199023255552, .int .i64 (upS R l)]]) ∧ Below w.heap.size w w' := by
  have MK := Lib.hid (fun u => May_yes k l v b a n sa ha sn sc hn hc u h)
  have TK := Lib.hid (fun u => isTick_yes t u t1 t2)
  have WK := Lib.hid (fun u => Weighs_yes m u m1 m2)
  obtain ⟨l1, l2, v1, v2⟩ := h.1.lv
  obtain ⟨x1, x2⟩ := h.1.M
  obtain ⟨hp, hk, ⟨ha1, ha2⟩, hn1, hn2, hs, hh⟩ := h
  have tb : a ≤ T ∧ T ≤ 1099511627776 := by rw [← hT]; unfold tmax; split <;> omega
  have tmm : (t < a ∧ T = a) ∨ (a ≤ t ∧ T = t) := by rw [← hT]; unfold tmax; split <;> omega
  have LV := Lib.hid (fun u => level_any k l v b a n T sa ha sn sc hn hc u ha1 tb.1 tb.2 hn1 (by omega) (by omega) l2)
  have rb := levG_bd (l := l) hn1 tb.1 (by omega)
  have WO := Lib.hid (fun u => worth_any k l v b m u (by omega) m2 (by omega) v2)
  have qb := prod_bd (show 0 ≤ m by omega) m2 (show 0 ≤ v by omega) v2
  have FU := Lib.hid (fun u => full_any k l v b u (by omega) l2 (by omega) v2)
  rw [hR] at LV rb
  rw [hQ] at WO qb
  rw [hM] at FU x1 x2 hn2
  obtain ⟨rb1, rb2⟩ := rb
  obtain ⟨qb1, qb2⟩ := qb
  have LS1 := Lib.hid (fun u => less_any (R + Q) M u (by unfold U64; omega) (by unfold U64; omega))
  have LS2 := Lib.hid (fun u => less_any M R u (by unfold U64; omega) (by unfold U64; omega))
  rw [show subS (R + Q) M = (R + Q - M) by unfold subS; split <;> omega] at LS1
  rw [show subS M R = M - R by unfold subS; split <;> omega] at LS2
  have WT := Lib.hid (fun u => weight_any (M - R) k l v b u (by omega) (by omega) v1 v2)
  have LO := Lib.hid (fun u => lasts_any (R + Q - M) k l v b u (by omega) (by omega) l1 l2)
  have LH := Lib.hid (fun u => lasts_any R k l v b u (by omega) (by omega) l1 l2)
  have HP := Lib.hid (AskAt.made w k l v b a n (.slice sa sn sc) (.slice ha hn hc))
  clear hp hk hs hh hT hR hQ hM tb
  generalize upS R l = RS at *
  generalize (M - R) / v = RM at *
  generalize upS (R + Q - M) l = RT at *
  have ov : (R + Q - M == 0) = false := by simp; omega
  go_enter Try.func10, Try.ntmps10
  go_wp2_with fail
  refine (MK.out _).mono ?_; rintro e w1 ⟨rfl, hb⟩
  have hp := HP.out.step hb
  have z0 := hp.pc.p0
  have z4 := hp.pc.c0
  have z1 := hp.pc.p1
  have z5 := hp.pc.c1
  have z2 := hp.pc.p2
  have z6 := hp.pc.c2
  have z3 := hp.pc.p3
  have z7 := hp.pc.c3
  have HQ := Lib.hid hp
  have HD := Lib.hid hp.drew
  clear hp hb HP MK
  go_wp2_with fail
  refine (TK.out _).mono ?_; rintro e w' ⟨rfl, rfl⟩
  go_wp2_with fail
  refine (WK.out _).mono ?_; rintro e w' ⟨rfl, rfl⟩
  go_upto_region 3 with (fail)
  go_cut [2] (fun s2 wx => s2 = .int .i64 T ∧ wx = w1)
  case first =>
    rcases tmm with ⟨q1, q2⟩ | ⟨q1, q2⟩
    · go_upto_region 4 with (fail)
      all_goals (go_meet; exact ⟨by rw [q2], rfl⟩)
    · go_upto_region 4 with (fail)
      all_goals (go_meet; exact ⟨by rw [q2], rfl⟩)
  case rest =>
  obtain ⟨rfl, rfl⟩ := hcut
  clear tmm
  go_upto_region 4 with (fail)
  go_cut [10, 11] (fun s10 s11 wx => s10 = .int .u64 R ∧ s11 = .int .u64 Q ∧ AskAt w k l v b a n (.slice sa sn sc) (.slice ha hn hc) wx)
  case first =>
    go_region_held3 (fun w' => w'.cell? ⟨w.heap.size, 0, none⟩ = some (.int .i64 k) ∧ w'.cell? ⟨w.heap.size, 1, none⟩ = some (.int .i64 l) ∧ w'.cell? ⟨w.heap.size, 2, none⟩ = some (.int .i64 v) ∧ w'.cell? ⟨w.heap.size, 3, none⟩ = some (.int .i64 b) ∧ w'.cell? ⟨w.heap.size + 1, 0, none⟩ = some (.int .i64 a) ∧ w'.cell? ⟨w.heap.size + 1, 1, none⟩ = some (.int .i64 n) ∧ w'.cell? ⟨w.heap.size + 1, 2, none⟩ = some (.slice sa sn sc) ∧ w'.cell? ⟨w.heap.size + 1, 3, none⟩ = some (.slice ha hn hc)) (first | exact ⟨z0, z1, z2, z3, z4, z5, z6, z7⟩ | exact ⟨a0, a1, a2, a3, a4, a5, a6, a7⟩ | exact ⟨b0, b1, b2, b3, b4, b5, b6, b7⟩ | go_keep) (first | (go_at_call 23; refine (LV.out _).mono ?_; rintro e wa ⟨rfl, hb1⟩; have hp1 := HD.out.step hb1; have G1 := Lib.hid hp1; have a0 := hp1.pc.p0; have a1 := hp1.pc.p1; have a2 := hp1.pc.p2; have a3 := hp1.pc.p3; have a4 := hp1.pc.c0; have a5 := hp1.pc.c1; have a6 := hp1.pc.c2; have a7 := hp1.pc.c3; clear hb1 hp1) | (go_at_call 24; refine (WO.out _).mono ?_; rintro e wb ⟨rfl, hb2⟩; have hp2 := G1.out.step hb2; have G2 := Lib.hid hp2; have b0 := hp2.pc.p0; have b1 := hp2.pc.p1; have b2 := hp2.pc.p2; have b3 := hp2.pc.p3; have b4 := hp2.pc.c0; have b5 := hp2.pc.c1; have b6 := hp2.pc.c2; have b7 := hp2.pc.c3; clear hb2 hp2))
    all_goals (go_wp2_with fail; go_meet; exact ⟨rfl, rfl, G2.out⟩)
  case rest =>
  clear z0 z1 z2 z3 z4 z5 z6 z7 HQ HD LV WO
  obtain ⟨rfl, rfl, hp⟩ := hcut
  have z0 := hp.pc.p0
  have z4 := hp.pc.c0
  have z1 := hp.pc.p1
  have z5 := hp.pc.c1
  have z2 := hp.pc.p2
  have z6 := hp.pc.c2
  have z3 := hp.pc.p3
  have z7 := hp.pc.c3
  have HQ := Lib.hid hp
  clear hp
  go_wp2_with fail
  refine (FU.out _).mono ?_; rintro e w3 ⟨rfl, hb⟩
  have hp := HQ.out.step hb
  clear z0 z1 z2 z3 z4 z5 z6 z7 HQ hb
  have z0 := hp.pc.p0
  have z4 := hp.pc.c0
  have z1 := hp.pc.p1
  have z5 := hp.pc.c1
  have z2 := hp.pc.p2
  have z6 := hp.pc.c2
  have z3 := hp.pc.p3
  have z7 := hp.pc.c3
  have HE := Lib.hid hp.drew
  have H0 := Lib.hid hp
  clear hp
  go_wp2_with fail
  refine (LS1.out _).mono ?_; rintro e w' ⟨rfl, rfl⟩
  go_upto_region 8 with (fail)
  go_cut [13] (fun s13 wx => ∃ g : Nat, s13 = .pointer (some ⟨g, 0, none⟩) ∧ VerAt w k l v b a n (.slice sa sn sc) (.slice ha hn hc) g false RM RT RS wx)
  case first =>
    go_region_held3 (fun w' => w'.cell? ⟨w.heap.size, 0, none⟩ = some (.int .i64 k) ∧ w'.cell? ⟨w.heap.size, 1, none⟩ = some (.int .i64 l) ∧ w'.cell? ⟨w.heap.size, 2, none⟩ = some (.int .i64 v) ∧ w'.cell? ⟨w.heap.size, 3, none⟩ = some (.int .i64 b) ∧ w'.cell? ⟨w.heap.size + 1, 0, none⟩ = some (.int .i64 a) ∧ w'.cell? ⟨w.heap.size + 1, 1, none⟩ = some (.int .i64 n) ∧ w'.cell? ⟨w.heap.size + 1, 2, none⟩ = some (.slice sa sn sc) ∧ w'.cell? ⟨w.heap.size + 1, 3, none⟩ = some (.slice ha hn hc)) (first | (with_reducible exact ⟨HE.out.pc.p0, HE.out.pc.p1, HE.out.pc.p2, HE.out.pc.p3, HE.out.pc.c0, HE.out.pc.c1, HE.out.pc.c2, HE.out.pc.c3⟩) | (with_reducible exact ⟨(HE.out.alloc _).pc.p0, (HE.out.alloc _).pc.p1, (HE.out.alloc _).pc.p2, (HE.out.alloc _).pc.p3, (HE.out.alloc _).pc.c0, (HE.out.alloc _).pc.c1, (HE.out.alloc _).pc.c2, (HE.out.alloc _).pc.c3⟩) | (with_reducible exact ⟨H1.out.pc.p0, H1.out.pc.p1, H1.out.pc.p2, H1.out.pc.p3, H1.out.pc.c0, H1.out.pc.c1, H1.out.pc.c2, H1.out.pc.c3⟩) | (with_reducible exact ⟨(H1.out.alloc _).pc.p0, (H1.out.alloc _).pc.p1, (H1.out.alloc _).pc.p2, (H1.out.alloc _).pc.p3, (H1.out.alloc _).pc.c0, (H1.out.alloc _).pc.c1, (H1.out.alloc _).pc.c2, (H1.out.alloc _).pc.c3⟩) | (with_reducible exact ⟨H2.out.pc.p0, H2.out.pc.p1, H2.out.pc.p2, H2.out.pc.p3, H2.out.pc.c0, H2.out.pc.c1, H2.out.pc.c2, H2.out.pc.c3⟩) | (with_reducible exact ⟨(H2.out.alloc _).pc.p0, (H2.out.alloc _).pc.p1, (H2.out.alloc _).pc.p2, (H2.out.alloc _).pc.p3, (H2.out.alloc _).pc.c0, (H2.out.alloc _).pc.c1, (H2.out.alloc _).pc.c2, (H2.out.alloc _).pc.c3⟩) | (with_reducible exact ⟨H3.out.pc.p0, H3.out.pc.p1, H3.out.pc.p2, H3.out.pc.p3, H3.out.pc.c0, H3.out.pc.c1, H3.out.pc.c2, H3.out.pc.c3⟩) | (with_reducible exact ⟨(H3.out.alloc _).pc.p0, (H3.out.alloc _).pc.p1, (H3.out.alloc _).pc.p2, (H3.out.alloc _).pc.p3, (H3.out.alloc _).pc.c0, (H3.out.alloc _).pc.c1, (H3.out.alloc _).pc.c2, (H3.out.alloc _).pc.c3⟩) | (with_reducible exact ⟨H4.out.pc.p0, H4.out.pc.p1, H4.out.pc.p2, H4.out.pc.p3, H4.out.pc.c0, H4.out.pc.c1, H4.out.pc.c2, H4.out.pc.c3⟩) | (with_reducible exact ⟨(H4.out.alloc _).pc.p0, (H4.out.alloc _).pc.p1, (H4.out.alloc _).pc.p2, (H4.out.alloc _).pc.p3, (H4.out.alloc _).pc.c0, (H4.out.alloc _).pc.c1, (H4.out.alloc _).pc.c2, (H4.out.alloc _).pc.c3⟩) | (with_reducible exact ⟨(H0.out.alloc _).drew.pc.p0, (H0.out.alloc _).drew.pc.p1, (H0.out.alloc _).drew.pc.p2, (H0.out.alloc _).drew.pc.p3, (H0.out.alloc _).drew.pc.c0, (H0.out.alloc _).drew.pc.c1, (H0.out.alloc _).drew.pc.c2, (H0.out.alloc _).drew.pc.c3⟩) | (with_reducible exact ⟨(H4.out.setv G4.out V4.out _ _ _ _).1.pc.p0, (H4.out.setv G4.out V4.out _ _ _ _).1.pc.p1, (H4.out.setv G4.out V4.out _ _ _ _).1.pc.p2, (H4.out.setv G4.out V4.out _ _ _ _).1.pc.p3, (H4.out.setv G4.out V4.out _ _ _ _).1.pc.c0, (H4.out.setv G4.out V4.out _ _ _ _).1.pc.c1, (H4.out.setv G4.out V4.out _ _ _ _).1.pc.c2, (H4.out.setv G4.out V4.out _ _ _ _).1.pc.c3⟩) | go_keep) (first | (go_at_call 26; (with_reducible refine (FU.out _).mono ?_); rintro e wa ⟨rfl, hb⟩; first | ((with_reducible have hp := HE.out.stepD hb); (with_reducible have hv := ver_newD hb); have G1 := Lib.hid HE.out.szD; obtain ⟨e0, e1, e2, e3, ef⟩ := ver_cells hv; have V1 := Lib.hid hv; have H1 := Lib.hid hp; have a0 := hp.pc.p0; have a1 := hp.pc.p1; have a2 := hp.pc.p2; have a3 := hp.pc.p3; have a4 := hp.pc.c0; have a5 := hp.pc.c1; have a6 := hp.pc.c2; have a7 := hp.pc.c3; clear hb hp hv) | ((with_reducible have hp := HE.out.stepA hb); (with_reducible have hv := ver_new hb); have G1 := Lib.hid HE.out.sz; obtain ⟨e0, e1, e2, e3, ef⟩ := ver_cells hv; have V1 := Lib.hid hv; have H1 := Lib.hid hp; have a0 := hp.pc.p0; have a1 := hp.pc.p1; have a2 := hp.pc.p2; have a3 := hp.pc.p3; have a4 := hp.pc.c0; have a5 := hp.pc.c1; have a6 := hp.pc.c2; have a7 := hp.pc.c3; clear hb hp hv) | ((with_reducible have hp := HE.out.step hb); have H1 := Lib.hid hp; have a0 := hp.pc.p0; have a1 := hp.pc.p1; have a2 := hp.pc.p2; have a3 := hp.pc.p3; have a4 := hp.pc.c0; have a5 := hp.pc.c1; have a6 := hp.pc.c2; have a7 := hp.pc.c3; clear hb hp)) | (go_at_call 25; refine (LS2.out _).mono ?_; rintro e w' ⟨rfl, rfl⟩) | (go_at_call 27; (with_reducible refine (WT.out _).mono ?_); rintro e wb ⟨rfl, hb⟩; first | ((with_reducible have hp := H1.out.step hb); (with_reducible have hv := ver_step V1.out hb); have G2 := Lib.hid G1.out; clear e0 e1 e2 e3 ef V1; obtain ⟨e0, e1, e2, e3, ef⟩ := ver_cells hv; have V2 := Lib.hid hv; have H2 := Lib.hid hp; have b0 := hp.pc.p0; have b1 := hp.pc.p1; have b2 := hp.pc.p2; have b3 := hp.pc.p3; have b4 := hp.pc.c0; have b5 := hp.pc.c1; have b6 := hp.pc.c2; have b7 := hp.pc.c3; clear hb hp hv) | ((with_reducible have hp := H1.out.stepA hb); (with_reducible have hv := ver_new hb); have G2 := Lib.hid H1.out.sz; obtain ⟨e0, e1, e2, e3, ef⟩ := ver_cells hv; have V2 := Lib.hid hv; have H2 := Lib.hid hp; have b0 := hp.pc.p0; have b1 := hp.pc.p1; have b2 := hp.pc.p2; have b3 := hp.pc.p3; have b4 := hp.pc.c0; have b5 := hp.pc.c1; have b6 := hp.pc.c2; have b7 := hp.pc.c3; clear hb hp hv) | ((with_reducible have hp := H1.out.step hb); have H2 := Lib.hid hp; have b0 := hp.pc.p0; have b1 := hp.pc.p1; have b2 := hp.pc.p2; have b3 := hp.pc.p3; have b4 := hp.pc.c0; have b5 := hp.pc.c1; have b6 := hp.pc.c2; have b7 := hp.pc.c3; clear hb hp)) | (go_at_call 28; (with_reducible refine (LO.out _).mono ?_); rintro e wc ⟨rfl, hb⟩; first | ((with_reducible have hp := H2.out.step hb); (with_reducible have hv := ver_step V2.out hb); have G3 := Lib.hid G2.out; clear e0 e1 e2 e3 ef V2; obtain ⟨e0, e1, e2, e3, ef⟩ := ver_cells hv; have V3 := Lib.hid hv; have H3 := Lib.hid hp; have c0 := hp.pc.p0; have c1 := hp.pc.p1; have c2 := hp.pc.p2; have c3 := hp.pc.p3; have c4 := hp.pc.c0; have c5 := hp.pc.c1; have c6 := hp.pc.c2; have c7 := hp.pc.c3; clear hb hp hv) | ((with_reducible have hp := H2.out.stepA hb); (with_reducible have hv := ver_new hb); have G3 := Lib.hid H2.out.sz; obtain ⟨e0, e1, e2, e3, ef⟩ := ver_cells hv; have V3 := Lib.hid hv; have H3 := Lib.hid hp; have c0 := hp.pc.p0; have c1 := hp.pc.p1; have c2 := hp.pc.p2; have c3 := hp.pc.p3; have c4 := hp.pc.c0; have c5 := hp.pc.c1; have c6 := hp.pc.c2; have c7 := hp.pc.c3; clear hb hp hv) | ((with_reducible have hp := H2.out.step hb); have H3 := Lib.hid hp; have c0 := hp.pc.p0; have c1 := hp.pc.p1; have c2 := hp.pc.p2; have c3 := hp.pc.p3; have c4 := hp.pc.c0; have c5 := hp.pc.c1; have c6 := hp.pc.c2; have c7 := hp.pc.c3; clear hb hp)) | (go_at_call 28; (with_reducible refine (LH.out _).mono ?_); rintro e wd ⟨rfl, hb⟩; first | ((with_reducible have hp := H3.out.step hb); (with_reducible have hv := ver_step V3.out hb); have G4 := Lib.hid G3.out; clear e0 e1 e2 e3 ef V3; obtain ⟨e0, e1, e2, e3, ef⟩ := ver_cells hv; have V4 := Lib.hid hv; have H4 := Lib.hid hp; have d0 := hp.pc.p0; have d1 := hp.pc.p1; have d2 := hp.pc.p2; have d3 := hp.pc.p3; have d4 := hp.pc.c0; have d5 := hp.pc.c1; have d6 := hp.pc.c2; have d7 := hp.pc.c3; clear hb hp hv) | ((with_reducible have hp := H3.out.stepA hb); (with_reducible have hv := ver_new hb); have G4 := Lib.hid H3.out.sz; obtain ⟨e0, e1, e2, e3, ef⟩ := ver_cells hv; have V4 := Lib.hid hv; have H4 := Lib.hid hp; have d0 := hp.pc.p0; have d1 := hp.pc.p1; have d2 := hp.pc.p2; have d3 := hp.pc.p3; have d4 := hp.pc.c0; have d5 := hp.pc.c1; have d6 := hp.pc.c2; have d7 := hp.pc.c3; clear hb hp hv) | ((with_reducible have hp := H3.out.step hb); have H4 := Lib.hid hp; have d0 := hp.pc.p0; have d1 := hp.pc.p1; have d2 := hp.pc.p2; have d3 := hp.pc.p3; have d4 := hp.pc.c0; have d5 := hp.pc.c1; have d6 := hp.pc.c2; have d7 := hp.pc.c3; clear hb hp)))
    all_goals (go_wp2_with fail; go_meet; first | exact ⟨_, rfl, H4.out.alloc _, Has.made _ _ _, H4.out.sz⟩ | exact ⟨_, rfl, (H4.out.setv G4.out V4.out _ _ _ _).1, (H4.out.setv G4.out V4.out _ _ _ _).2, G4.out⟩)
  case rest =>
  clear z0 z1 z2 z3 z4 z5 z6 z7 HE
  obtain ⟨g, rfl, hp, hv, hg⟩ := hcut
  have z0 := hp.pc.p0
  have z4 := hp.pc.c0
  have z1 := hp.pc.p1
  have z5 := hp.pc.c1
  have z2 := hp.pc.p2
  have z6 := hp.pc.c2
  have z3 := hp.pc.p3
  have z7 := hp.pc.c3
  obtain ⟨r0, r1, r2, r3, r4, r5, r6, r7, r8, r9⟩ := hp.res
  have y0 := hv.cell 0
  have y1 := hv.cell 1
  have y2 := hv.cell 2
  have y3 := hv.cell 3
  have y4 := hv.loose 2
  simp at y0 y1 y2 y3
  have g0 : g ≠ w.heap.size + 1 + 1 := by omega
  have g1 : g ≠ w.heap.size + 1 + 1 + 1 := by omega
  have g2 : w.heap.size + 1 + 1 ≠ g := by omega
  have g3 : w.heap.size + 1 + 1 + 1 ≠ g := by omega
  have HF := Lib.hid hp
  have HV := Lib.hid hv
  have HG := Lib.hid hg
  clear hp hv
  go_upto_region 11 with (fail)
  have hp := HF.out.set HG.out 2 (.int .i64 2199023255552)
  have hv := HV.out.store 2 (.int .i64 2199023255552)
  simp at hv
  generalize wc.setCell ⟨g, 2, none⟩ (.int .i64 2199023255552) = wz at hp hv ⊢
  clear z0 z1 z2 z3 z4 z5 z6 z7 r0 r1 r2 r3 r4 r5 r6 r7 r8 r9 y0 y1 y2 y3 y4 g0 g1 g2 g3 HF HV
  have z0 := hp.pc.p0
  have z4 := hp.pc.c0
  have z1 := hp.pc.p1
  have z5 := hp.pc.c1
  have z2 := hp.pc.p2
  have z6 := hp.pc.c2
  have z3 := hp.pc.p3
  have z7 := hp.pc.c3
  obtain ⟨r0, r1, r2, r3, r4, r5, r6, r7, r8, r9⟩ := hp.res
  have y0 := hv.cell 0
  have y1 := hv.cell 1
  have y2 := hv.cell 2
  have y3 := hv.cell 3
  have y4 := hv.loose 2
  simp at y0 y1 y2 y3
  have g0 : g ≠ w.heap.size + 1 + 1 := by omega
  have g1 : g ≠ w.heap.size + 1 + 1 + 1 := by omega
  have g2 : w.heap.size + 1 + 1 ≠ g := by omega
  have g3 : w.heap.size + 1 + 1 + 1 ≠ g := by omega
  have HF := Lib.hid hp
  have HV := Lib.hid hv
  clear hp hv
  go_region
  all_goals go_wp2_with fail
  all_goals refine bodyPost_ret (v := .tuple #[.agg #[.int .i64 T, .int .i64 R, .slice none 0 0, .slice none 0 0], .agg #[.bool false, .int .i64 RM, .int .i64 2199023255552, .int .i64 RS]]) (by simp [results, Try.results10, go_sem, r0, r1, r2, r3, r4, r5, r6, r7]) rfl ⟨rfl, ?_⟩
  all_goals first | (with_reducible exact (HF.out.drew).put _ _ _ _ _ _ _ _) | (with_reducible exact (HF.out.drew).put2 _ _ _ _ _ _ _ _) | (with_reducible exact HF.out.put _ _ _ _ _ _ _ _) | (with_reducible exact HF.out.put2 _ _ _ _ _ _ _ _) | (with_reducible exact (HF.out.put _ _ _ _ _ _ _ _).drew) | (with_reducible exact (HF.out.put2 _ _ _ _ _ _ _ _).drew)
end Go.Proofs.Ytdmephlappmmdaa
