/- A Reader is fed a chunk. -/
import Derived.Test.YtgcdminjpdbchabFr4
import Derived.Deep.RegionHeld3
import Derived.Deep.RegionWith
import Derived.Deep.DeepCutAuto
namespace Go.Proofs.Ytgcdminjpdbchab
open Go.ChangeShapes Go.WideShapes Go.ChangeAt Go.RowKit
set_option linter.unusedVariables false

theorem infoPiece : (Try.prog.info? 37).map (fun i => (i.zero, i.size, i.bytes)) = some (some (.agg #[.string ⟨#[]⟩, .int .i64 0]), 2, 24) := by kernel_rfl
theorem nf_any (m : Nat) : nf m = 15 ∨ nf m = 20 ∨ nf m = 21 := by
  unfold nf
  by_cases h : m = 0
  · rw [if_pos h]; exact .inl rfl
  · rw [if_neg h]
    by_cases h : m = 1
    · rw [if_pos h]; exact .inr (.inl rfl)
    · rw [if_neg h]; exact .inr (.inr rfl)
/-- The first j bytes. -/
def pre (s : ByteArray) (j : Nat) : List UInt8 := s.data.toList.take j
theorem pre_succ (s : ByteArray) (j : Nat) (h : j < s.size) : pre s (j + 1) = pre s j ++ [s[j]] := take_snoc s j h
theorem pre_end (s : ByteArray) (j : Nat) (h : ¬ j < s.size) : pre s j = s.data.toList := List.take_of_length_le (by rw [Array.length_toList]; exact Nat.le_of_not_lt h)
theorem pre_len (s : ByteArray) (j : Nat) : (pre s j).length ≤ j := List.length_take_le _ _
/-- What Feed tells. -/
def FeedT (r : Nat) (v : Value) (s : FrS) (l : List UInt8) (w : World) (e : Ending) (w' : World) : Prop := ∃ pv v', e = .returned pv ∧ OwnPr w.heap.size 37 w' pv (s.run l).2 ∧ RdT w r v (s.run l).1 v' w'
/-- Behind j bytes. -/
structure FedI (w : World) (r : Nat) (v : Value) (s : FrS) (c : ByteArray) (j : Nat) (pv v' : Value) (wr : World) : Prop where
  p : OwnPr w.heap.size 37 wr pv (s.run (pre c j)).2
  t : RdT w r v (s.run (pre c j)).1 v' wr
  le : (s.run (pre c j)).2.length ≤ j
theorem FedI.step {w wr w' : World} {r : Nat} {v pv v' : Value} {s : FrS} {c : ByteArray} {j : Nat} (h : FedI w r v s c j pv v' wr) (hb : Below wr.heap.size wr w') : FedI w r v s c j pv v' w' :=
  ⟨h.p.kept (Kept.of_below (F := fun _ => False) hb) (fun _ _ q => q), h.t.step hb, h.le⟩
/-- A byte more, which tells nothing. -/
theorem FedI.quiet {w wr w' : World} {r : Nat} {v pv v' v2 : Value} {s : FrS} {c : ByteArray} {j : Nat} (h : FedI w r v s c j pv v' wr) (hj : j < c.size) (ho : ((s.run (pre c j)).1.step c[j]).2 = none) (k : RdT wr r v' ((s.run (pre c j)).1.step c[j]).1 v2 w') : FedI w r v s c (j + 1) pv v2 w' := by
  have e : s.run (pre c (j + 1)) = (((s.run (pre c j)).1.step c[j]).1, (s.run (pre c j)).2) := by rw [pre_succ c j hj, run_snoc, ho]; simp
  refine ⟨by rw [e]; exact h.p.beside h.t.t k (by decide) (by decide), by rw [e]; exact h.t.trans k, by rw [e]; exact Nat.le_succ_of_le h.le⟩
/-- A byte more, which tells a piece. -/
theorem FedI.told {w wr w' w2 : World} {r : Nat} {v pv pv2 v' v2 : Value} {s : FrS} {c : ByteArray} {j : Nat} {p : Pc} (h : FedI w r v s c j pv v' wr) (hj : j < c.size) (ho : ((s.run (pre c j)).1.step c[j]).2 = some p) (k : RdT wr r v' ((s.run (pre c j)).1.step c[j]).1 v2 w')
    (q : OwnPr w.heap.size 37 w2 pv2 ((s.run (pre c j)).2 ++ [p])) (hk : Kept (fun b => pv.ownBlock = some b) w' w2) : FedI w r v s c (j + 1) pv2 v2 w2 := by
  have e : s.run (pre c (j + 1)) = (((s.run (pre c j)).1.step c[j]).1, (s.run (pre c j)).2 ++ [p]) := by rw [pre_succ c j hj, run_snoc, ho]; simp
  have hp : OwnPr w.heap.size 37 w' pv (s.run (pre c j)).2 := h.p.beside h.t.t k (by decide) (by decide)
  refine ⟨by rw [e]; exact q, ?_, by rw [e]; simp; exact h.le⟩
  rw [e]
  have t2 := h.t.trans k
  refine ⟨t2.t.kept hk (fun e2 => owns_ne hp e2 t2.t.h (by decide) rfl) (fun b hb e2 => owns_ne2 hp t2.t.o (by decide) e2 hb), t2.fr, t2.kp.trans hk (fun b e2 => .inr (owns_lt hp e2).1)⟩
/-- The piece in a block of its own. -/
structure Pv (wr : World) (r : Nat) (v' : Value) (s2 : FrS) (v2 : Value) (H : Nat) (p : Pc) (w' : World) : Prop where
  t : RdT wr r v' s2 v2 w'
  p : Has w' H 37 [.string p.1, .int .i64 p.2]
theorem pv0 {wr w3 : World} {r : Nat} {v' v2 : Value} {s2 : FrS} (p : Pc) (h : RdT wr r v' s2 v2 w3) : Pv wr r v' s2 v2 w3.heap.size p (w3.alloc (.cells #[.string p.1, .int .i64 p.2] 37)) :=
  ⟨h.step ((Below.refl _ _).alloc (Nat.le_refl _) _), Has.made w3 37 [.string p.1, .int .i64 p.2]⟩
theorem pv1 {wr w3 : World} {r : Nat} {v' v2 : Value} {s2 : FrS} (p : Pc) (h : RdT wr r v' s2 v2 w3) (q : Has w3 wr.heap.size 37 [.string ⟨#[]⟩, .int .i64 0]) : Pv wr r v' s2 v2 wr.heap.size p ((w3.setCell ⟨wr.heap.size, 0, none⟩ (.string p.1)).setCell ⟨wr.heap.size, 1, none⟩ (.int .i64 p.2)) := by
  have hk : Kept (fun b => b = wr.heap.size) w3 ((w3.setCell ⟨wr.heap.size, 0, none⟩ (.string p.1)).setCell ⟨wr.heap.size, 1, none⟩ (.int .i64 p.2)) := ((Kept.refl (fun b => b = wr.heap.size) w3).setCell (p := ⟨wr.heap.size, 0, none⟩) (.inl rfl) _).setCell (p := ⟨wr.heap.size, 1, none⟩) (.inl rfl) _
  refine ⟨⟨h.t.kept hk (fun e => ?_) (fun b hb e => ?_), h.fr, h.kp.trans hk (fun b e => .inr (Nat.le_of_eq e.symm))⟩, (q.store 0 _).store 1 _⟩
  · have h1 := h.t.h
    rw [e] at h1
    unfold Has at h1 q
    rw [h1] at q
    injection q with q
    injection q with _ q _
    exact absurd q (by decide)
  · exact owns_ne h.t.o hb q (by decide) e.symm
theorem outK (o : Option Pc) : ∃ b p, outP o = .tuple #[.agg #[.string p.1, .int .i64 p.2], .bool b] ∧ (b = true → o = some p) ∧ (b = false → o = none) := by
  cases o with
  | none => exact ⟨false, (⟨#[]⟩, 0), rfl, fun h => by (cases h), fun _ => rfl⟩
  | some p => exact ⟨true, p, rfl, fun _ => rfl, fun h => by (cases h)⟩

set_option maxRecDepth 100000 in
set_option maxHeartbeats 0 in
theorem Feed_any (w : World) (r : Nat) (v : Value) (s : FrS) (c : ByteArray) (hc : c.size ≤ 20000) (h : Rd w r v s) : Calls Try.prog 11 #[.pointer (some ⟨r, 0, none⟩), .string c] w (FeedT r v s c.data.toList w) := by
  have HM := Lib.hid (made_any w r v s h)
  have HI := Lib.hid (show FedI w r v s c 0 (.slice none 0 0) v w from ⟨OwnPr.nil _ _ _, RdT.refl h, by simp [pre, FrS.run]⟩)
  clear h
  go_enter Try.func11, Try.ntmps11
  go_wp2_with fail
  refine HM.out.mono ?_
  rintro e w1 ⟨rfl, rfl⟩
  clear HM
  go_wp2_with fail
  go_loopw [14, 5] (fun i pv wr => ∃ (j : Nat) (v' : Value), j ≤ c.size ∧ i = .int .i64 (j : Int) ∧ Hid (FedI w r v s c j pv v' wr)) (fun i _ _ => c.size - (intOf i).toNat)
  case atStart => exact ⟨0, v, Nat.zero_le _, rfl, HI⟩
  case round =>
    obtain ⟨j, v', hj, rfl, HIw⟩ := hrel
    clear HI
    by_cases hlt : j < c.size
    · have c2 := HIw.out.t.t.three.2.2
      have hrl := HIw.out.t.t.h.lt
      rw [nx_nf] at c2
      obtain ⟨wh, p, ho, hy, hn⟩ := outK ((s.run (pre c j)).1.step c[j]).2
      have HC := Lib.hid (fun (w' : World) (hb : Below wr.heap.size wr w') => show Calls Try.prog (nf (s.run (pre c j)).1.m) #[.pointer (some ⟨r, 0, none⟩), .int .u8 (c[j].toNat : Int)] w' (fun e w3 => ∃ v2, e = .returned (.tuple #[.agg #[.string p.1, .int .i64 p.2], .bool wh]) ∧ RdT w' r v' ((s.run (pre c j)).1.step c[j]).1 v2 w3) from by
        have := next_any w' r v' _ c[j] (HIw.out.t.t.step hb)
        unfold ByteT at this
        rw [ho] at this
        exact this)
      have HA := Lib.hid (HC.out wr.drew (Below.refl _ _).drew)
      have HB := Lib.hid (HC.out (wr.alloc (.cells #[.string ⟨#[]⟩, .int .i64 0] 37)).drew ((Below.refl _ _).alloc (Nat.le_refl _) _).drew)
      have HP := Lib.hid (Has.made wr 37 [.string ⟨#[]⟩, .int .i64 0])
      have HY := Lib.hid hy
      have HN := Lib.hid hn
      clear HC ho hy hn
      have h3 := nf_any (s.run (pre c j)).1.m
      go_wp2_with fail
      go_cut [7, 8] (fun s7 s8 wx => ∃ (H : Nat) (v2 : Value), s7 = .pointer (some ⟨H, 0, none⟩) ∧ s8 = .bool wh ∧ Hid (Pv wr r v' ((s.run (pre c j)).1.step c[j]).1 v2 H p wx))
      case first =>
        rcases h3 with h3 | h3 | h3
        · rw [h3] at c2 HA HB
          clear h3
          go_region_with (first | (go_at_call 15; refine HA.out.mono ?_; rintro e w3 ⟨v2, rfl, hT⟩; have HT := Lib.hid (hT.from (Below.refl _ _).drew); clear hT) | (go_at_call 15; refine HB.out.mono ?_; rintro e w3 ⟨v2, rfl, hT⟩; have HQ := Lib.hid (HP.out.drew.kept hT.kp (fun q => q.elim (fun q => by omega) (fun q => absurd ((HIw.out.t.t.lt).2 _ q) (by omega)))); have HT := Lib.hid (hT.from ((Below.refl _ _).alloc (Nat.le_refl _) _).drew); have y0 := HQ.out.cell 0; have y1 := HQ.out.cell 1; have y2 := HQ.out.loose; simp at y0 y1; clear hT))
          all_goals (go_wp2_with fail; go_meet)
          all_goals first | (with_reducible exact ⟨_, _, rfl, rfl, Lib.hid (pv0 p HT.out)⟩) | (with_reducible exact ⟨_, _, rfl, rfl, Lib.hid (pv1 p HT.out HQ.out)⟩)
        · rw [h3] at c2 HA HB
          clear h3
          go_region_with (first | (go_at_call 20; refine HA.out.mono ?_; rintro e w3 ⟨v2, rfl, hT⟩; have HT := Lib.hid (hT.from (Below.refl _ _).drew); clear hT) | (go_at_call 20; refine HB.out.mono ?_; rintro e w3 ⟨v2, rfl, hT⟩; have HQ := Lib.hid (HP.out.drew.kept hT.kp (fun q => q.elim (fun q => by omega) (fun q => absurd ((HIw.out.t.t.lt).2 _ q) (by omega)))); have HT := Lib.hid (hT.from ((Below.refl _ _).alloc (Nat.le_refl _) _).drew); have y0 := HQ.out.cell 0; have y1 := HQ.out.cell 1; have y2 := HQ.out.loose; simp at y0 y1; clear hT))
          all_goals (go_wp2_with fail; go_meet)
          all_goals first | (with_reducible exact ⟨_, _, rfl, rfl, Lib.hid (pv0 p HT.out)⟩) | (with_reducible exact ⟨_, _, rfl, rfl, Lib.hid (pv1 p HT.out HQ.out)⟩)
        · rw [h3] at c2 HA HB
          clear h3
          go_region_with (first | (go_at_call 21; refine HA.out.mono ?_; rintro e w3 ⟨v2, rfl, hT⟩; have HT := Lib.hid (hT.from (Below.refl _ _).drew); clear hT) | (go_at_call 21; refine HB.out.mono ?_; rintro e w3 ⟨v2, rfl, hT⟩; have HQ := Lib.hid (HP.out.drew.kept hT.kp (fun q => q.elim (fun q => by omega) (fun q => absurd ((HIw.out.t.t.lt).2 _ q) (by omega)))); have HT := Lib.hid (hT.from ((Below.refl _ _).alloc (Nat.le_refl _) _).drew); have y0 := HQ.out.cell 0; have y1 := HQ.out.cell 1; have y2 := HQ.out.loose; simp at y0 y1; clear hT))
          all_goals (go_wp2_with fail; go_meet)
          all_goals first | (with_reducible exact ⟨_, _, rfl, rfl, Lib.hid (pv0 p HT.out)⟩) | (with_reducible exact ⟨_, _, rfl, rfl, Lib.hid (pv1 p HT.out HQ.out)⟩)
      case rest =>
        obtain ⟨H, v2, rfl, rfl, HV⟩ := hcut
        clear c2 HA HB HP h3
        cases wh with
        | false =>
          have HZ := Lib.hid (HIw.out.quiet hlt (HN.out (by first | rfl | trivial)) HV.out.t)
          clear HIw HV HY HN
          go_wp2
          go_roundw
          case rel => exact ⟨j + 1, v2, by omega, by go_num, HZ⟩
          case measure => simp [intOf]; omega
        | true =>
          obtain ⟨q, hq⟩ : ∃ q, (s.run (pre c j)).2.length = q := ⟨_, rfl⟩
          have q1 : q ≤ j := by rw [← hq]; exact HIw.out.le
          have HK := Lib.hid (show (s.run (pre c j)).2.length + [p].length = q + 1 by rw [hq]; rfl)
          have HO := Lib.hid ((HIw.out.p.beside HIw.out.t.t HV.out.t (by decide) (by decide)).kept (Kept.of_below (F := fun _ => False) ((Below.refl wc.heap.size wc).alloc (Nat.le_refl _) (.cells #[.string p.1, .int .i64 p.2] 37))) (fun _ _ q => q))
          have HL := Lib.hid (PrAt.lit (p := p) (Has.made wc 37 [.string p.1, .int .i64 p.2]))
          have HB := Lib.hid (show w.heap.size ≤ (wc.alloc (.cells #[.string p.1, .int .i64 p.2] 37)).heap.size from by
            have := (HIw.out.t.trans HV.out.t).kp.size
            simp; omega)
          have y0 := HV.out.p.cell 0
          have y1 := HV.out.p.cell 1
          simp at y0 y1
          clear hq
          go_wp2_with (at_builtin; refine wpList_append_pr w.heap.size Try.underlying31 infoPiece (wc.alloc (.cells #[.string p.1, .int .i64 p.2] 37)) rfl _ _ rfl u5 (s.run (pre c j)).2 [p] (some ⟨wc.heap.size, 0, none⟩) 1 1 (q + 1) HK.out rfl rfl rfl HO.out HL.out HB.out (by omega) ?_)
          intro A' cap w5 ho hk hfr
          have HZ := Lib.hid (HIw.out.told hlt (HY.out (by first | rfl | trivial)) HV.out.t ho (((Kept.refl (fun b => u5.ownBlock = some b) wc).alloc _).trans hk (fun b e => .inl e)))
          clear ho hk hfr HIw HV HY HN HK HO HL HB y0 y1
          go_wp2
          go_roundw
          case rel => exact ⟨j + 1, v2, by omega, by go_num, HZ⟩
          case measure => simp [intOf]; omega
    · go_wp2
      go_ret
      have := HIw.out
      exact ⟨_, v', rfl, by rw [← pre_end c j hlt]; exact this.p, by rw [← pre_end c j hlt]; exact this.t⟩
end Go.Proofs.Ytgcdminjpdbchab
