/- The document's own New. -/
import Derived.Test.YtbmapjbjpgoibaaRow
namespace Go.Proofs.Ytbmapjbjpgoibaa
open Go.ChangeShapes Go.WideShapes Go.ChangeAt Go.RowKit
set_option linter.unusedVariables false

/-- The blocks of a slab that is being made. -/
def labN (bR : Nat) (vG vT vW vQ : Value) (vs : List Nat) : Nat → Option Nat
  | 0 => some bR
  | 1 => vG.ownBlock
  | 2 => vT.ownBlock
  | 3 => vW.ownBlock
  | 4 => vQ.ownBlock
  | n + 5 => vs[n]?
def slV (k : Nat) (vs : List Nat) : List Value := vs.map fun b => .slice (some ⟨b, 0, none⟩) k k
/-- A slab that is being made. -/
structure RN (W w : World) (k bR : Nat) (vG vT vW vQ : Value) (jG jT jQ : Nat) (vs : List Nat) : Prop where
  hd : Has w bR 61 [vG, vT, vW, vQ]
  g : Own1 W.heap.size 3 w vG (List.replicate jG (.int .i64 0))
  t : Own1 W.heap.size 4 w vT (List.replicate jT (.bool false))
  v : Own1 W.heap.size 33 w vW (slV k vs)
  q : Own1 W.heap.size 3 w vQ (intsV (List.range jQ))
  ws : ∀ b ∈ vs, W.heap.size ≤ b ∧ Has w b 49 (wordsV (List.replicate k 0))
  ap : Inj (labN bR vG vT vW vQ vs)
  bR : W.heap.size ≤ bR
  lo : Below W.heap.size W w
section
variable {W w w1 : World} {k bR : Nat} {vG vT vW vQ v' : Value} {jG jT jQ : Nat} {vs : List Nat}
theorem RN.lt (h : RN W w k bR vG vT vW vQ jG jT jQ vs) : ∀ b y, labN bR vG vT vW vQ vs b = some y → y < w.heap.size := by
  intro b y hb
  match b, hb with
  | 0, hb => have : y = bR := by simpa [labN] using hb.symm
             rw [this]; exact h.hd.lt
  | 1, hb => exact h.g.lt hb
  | 2, hb => exact h.t.lt hb
  | 3, hb => exact h.v.lt hb
  | 4, hb => exact h.q.lt hb
  | n + 5, hb => exact (h.ws y (List.mem_of_getElem? hb)).2.lt
theorem ownBlock_slice (g n c : Nat) : (Value.slice (some ⟨g, 0, none⟩) n c).ownBlock = some g := rfl
theorem RN.all (h : RN W w k bR vG vT vW vQ jG jT jQ vs) {F : Nat → Prop} (hk : Kept F w w1) (hF : ∀ a b, labN bR vG vT vW vQ vs a = some b → ¬ F b) (hlo : ∀ b, F b → W.heap.size ≤ b) : RN W w1 k bR vG vT vW vQ jG jT jQ vs :=
  ⟨h.hd.kept hk (hF 0 _ rfl), h.g.kept hk (hF 1), h.t.kept hk (hF 2), h.v.kept hk (hF 3), h.q.kept hk (hF 4), fun b hb => ⟨(h.ws b hb).1, (h.ws b hb).2.kept hk (by obtain ⟨i, hi⟩ := List.getElem?_of_mem hb; exact hF (i + 5) b hi)⟩, h.ap, h.bR, h.lo.trans (hk.below h.lo.size (fun i hi hf => by have := hlo i hf; omega))⟩
theorem RN.below (h : RN W w k bR vG vT vW vQ jG jT jQ vs) (hb : Below w.heap.size w w1) : RN W w1 k bR vG vT vW vQ jG jT jQ vs :=
  h.all (F := fun _ => False) (Kept.of_below hb) (fun _ _ _ => id) (fun _ h => h.elim)
/-- What is left of the rest, when one of the four has grown and was stored. -/
theorem RN.rest (h : RN W w k bR vG vT vW vQ jG jT jQ vs) (a : Nat) (old : Value) (ha : labN bR vG vT vW vQ vs a = old.ownBlock) (ha0 : a ≠ 0) (ha4 : a < 5) (hge : ∀ b, old.ownBlock = some b → W.heap.size ≤ b) (hk : Kept (fun b => old.ownBlock = some b) w w1) (i : Nat) (u : Value) :
    Has w1 bR 61 [vG, vT, vW, vQ] ∧ (a ≠ 1 → Own1 W.heap.size 3 (w1.setCell ⟨bR, i, none⟩ u) vG (List.replicate jG (.int .i64 0))) ∧ (a ≠ 2 → Own1 W.heap.size 4 (w1.setCell ⟨bR, i, none⟩ u) vT (List.replicate jT (.bool false))) ∧
    (a ≠ 3 → Own1 W.heap.size 33 (w1.setCell ⟨bR, i, none⟩ u) vW (slV k vs)) ∧ (a ≠ 4 → Own1 W.heap.size 3 (w1.setCell ⟨bR, i, none⟩ u) vQ (intsV (List.range jQ))) ∧
    (∀ b ∈ vs, W.heap.size ≤ b ∧ Has (w1.setCell ⟨bR, i, none⟩ u) b 49 (wordsV (List.replicate k 0))) ∧ Below W.heap.size W (w1.setCell ⟨bR, i, none⟩ u) := by
  have hn : ∀ b x, b ≠ a → labN bR vG vT vW vQ vs b = some x → ¬ old.ownBlock = some x := fun b x hb hx he => hb (h.ap b a x hx (ha.trans he))
  have hne : ∀ b x, b ≠ 0 → labN bR vG vT vW vQ vs b = some x → ¬ x = bR := fun b x hb hx he => hb (h.ap b 0 x hx (by rw [he]; rfl))
  have hk2 := kept_cell w1 bR i u
  have two : ∀ {e : TypeId} {v : Value} {xs : List Value} (b : Nat), Own1 W.heap.size e w v xs → labN bR vG vT vW vQ vs b = v.ownBlock → b ≠ a → b ≠ 0 → Own1 W.heap.size e (w1.setCell ⟨bR, i, none⟩ u) v xs := fun b ho hb h1 h2 =>
    (ho.kept hk (fun x hx => hn b x h1 (hb.trans hx))).kept hk2 (fun x hx => hne b x h2 (hb.trans hx))
  refine ⟨h.hd.kept hk (hn 0 _ (fun e => ha0 e.symm) rfl), fun e => two 1 h.g rfl e.symm (by decide), fun e => two 2 h.t rfl e.symm (by decide), fun e => two 3 h.v rfl e.symm (by decide), fun e => two 4 h.q rfl e.symm (by decide), fun b hb => ?_, ?_⟩
  · obtain ⟨j, hj⟩ := List.getElem?_of_mem hb
    exact ⟨(h.ws b hb).1, ((h.ws b hb).2.kept hk (hn (j + 5) b (by omega) hj)).kept hk2 (hne (j + 5) b (by omega) hj)⟩
  · have hK : Kept (fun b => W.heap.size ≤ b) w (w1.setCell ⟨bR, i, none⟩ u) := (hk.mono (fun x _ hx => hge x hx)).setCell (p := ⟨bR, i, none⟩) (.inl h.bR) u
    exact h.lo.trans (hK.below h.lo.size (fun x hx hf => by omega))
theorem RN.stepG (h : RN W w k bR vG vT vW vQ jG jT jQ vs) {g cap : Nat} (ho : Own1 W.heap.size 3 w1 (.slice (some ⟨g, 0, none⟩) (jG + 1) cap) (List.replicate jG (.int .i64 0) ++ [.int .i64 0])) (hk : Kept (fun b => vG.ownBlock = some b) w w1) (hg : vG.ownBlock = some g ∨ w.heap.size ≤ g) :
    RN W (w1.setCell ⟨bR, 0, none⟩ (.slice (some ⟨g, 0, none⟩) (jG + 1) cap)) k bR (.slice (some ⟨g, 0, none⟩) (jG + 1) cap) vT vW vQ (jG + 1) jT jQ vs := by
  obtain ⟨r0, r1, r2, r3, r4, r5, r6⟩ := h.rest 1 vG rfl (by decide) (by decide) (fun b hb => h.g.ge hb) hk 0 (.slice (some ⟨g, 0, none⟩) (jG + 1) cap)
  have hgb : ∀ x, (Value.slice (some ⟨g, 0, none⟩) (jG + 1) cap).ownBlock = some x → ¬ x = bR := fun x hx e => by
    have : x = g := by simpa [Value.ownBlock] using hx.symm
    subst this
    rcases hg with hg | hg
    · exact absurd (h.ap 1 0 x hg (by rw [e]; rfl)) (by decide)
    · have := h.hd.lt; omega
  refine ⟨r0.store 0 _, ?_, r2 (by decide), r3 (by decide), r4 (by decide), r5, ?_, h.bR, r6⟩
  · rw [List.replicate_succ']; exact ho.kept (kept_cell w1 bR 0 _) hgb
  · refine h.ap.set 1 w.heap.size (fun b hb => ?_) h.lt (fun x hx => ?_)
    · match b, hb with
      | 0, _ => rfl
      | 1, hb => exact absurd rfl hb
      | 2, _ => rfl
      | 3, _ => rfl
      | 4, _ => rfl
      | n + 5, _ => rfl
    · have : x = g := by simpa [labN, Value.ownBlock] using hx.symm
      subst this; exact hg
theorem RN.stepT (h : RN W w k bR vG vT vW vQ jG jT jQ vs) {g cap : Nat} (ho : Own1 W.heap.size 4 w1 (.slice (some ⟨g, 0, none⟩) (jT + 1) cap) (List.replicate jT (.bool false) ++ [.bool false])) (hk : Kept (fun b => vT.ownBlock = some b) w w1) (hg : vT.ownBlock = some g ∨ w.heap.size ≤ g) :
    RN W (w1.setCell ⟨bR, 1, none⟩ (.slice (some ⟨g, 0, none⟩) (jT + 1) cap)) k bR vG (.slice (some ⟨g, 0, none⟩) (jT + 1) cap) vW vQ jG (jT + 1) jQ vs := by
  obtain ⟨r0, r1, r2, r3, r4, r5, r6⟩ := h.rest 2 vT rfl (by decide) (by decide) (fun b hb => h.t.ge hb) hk 1 (.slice (some ⟨g, 0, none⟩) (jT + 1) cap)
  have hgb : ∀ x, (Value.slice (some ⟨g, 0, none⟩) (jT + 1) cap).ownBlock = some x → ¬ x = bR := fun x hx e => by
    have : x = g := by simpa [Value.ownBlock] using hx.symm
    subst this
    rcases hg with hg | hg
    · exact absurd (h.ap 2 0 x hg (by rw [e]; rfl)) (by decide)
    · have := h.hd.lt; omega
  refine ⟨r0.store 1 _, r1 (by decide), ?_, r3 (by decide), r4 (by decide), r5, ?_, h.bR, r6⟩
  · rw [List.replicate_succ']; exact ho.kept (kept_cell w1 bR 1 _) hgb
  · refine h.ap.set 2 w.heap.size (fun b hb => ?_) h.lt (fun x hx => ?_)
    · match b, hb with
      | 0, _ => rfl
      | 1, _ => rfl
      | 2, hb => exact absurd rfl hb
      | 3, _ => rfl
      | 4, _ => rfl
      | n + 5, _ => rfl
    · have : x = g := by simpa [labN, Value.ownBlock] using hx.symm
      subst this; exact hg
theorem RN.stepQ (h : RN W w k bR vG vT vW vQ jG jT jQ vs) {g cap : Nat} (ho : Own1 W.heap.size 3 w1 (.slice (some ⟨g, 0, none⟩) (jQ + 1) cap) (intsV (List.range jQ) ++ [.int .i64 (jQ : Int)])) (hk : Kept (fun b => vQ.ownBlock = some b) w w1) (hg : vQ.ownBlock = some g ∨ w.heap.size ≤ g) :
    RN W (w1.setCell ⟨bR, 3, none⟩ (.slice (some ⟨g, 0, none⟩) (jQ + 1) cap)) k bR vG vT vW (.slice (some ⟨g, 0, none⟩) (jQ + 1) cap) jG jT (jQ + 1) vs := by
  obtain ⟨r0, r1, r2, r3, r4, r5, r6⟩ := h.rest 4 vQ rfl (by decide) (by decide) (fun b hb => h.q.ge hb) hk 3 (.slice (some ⟨g, 0, none⟩) (jQ + 1) cap)
  have hgb : ∀ x, (Value.slice (some ⟨g, 0, none⟩) (jQ + 1) cap).ownBlock = some x → ¬ x = bR := fun x hx e => by
    have : x = g := by simpa [Value.ownBlock] using hx.symm
    subst this
    rcases hg with hg | hg
    · exact absurd (h.ap 4 0 x hg (by rw [e]; rfl)) (by decide)
    · have := h.hd.lt; omega
  refine ⟨r0.store 3 _, r1 (by decide), r2 (by decide), r3 (by decide), ?_, r5, ?_, h.bR, r6⟩
  · rw [List.range_succ, intsV_app]; exact ho.kept (kept_cell w1 bR 3 _) hgb
  · refine h.ap.set 4 w.heap.size (fun b hb => ?_) h.lt (fun x hx => ?_)
    · match b, hb with
      | 0, _ => rfl
      | 1, _ => rfl
      | 2, _ => rfl
      | 3, _ => rfl
      | 4, hb => exact absurd rfl hb
      | n + 5, _ => rfl
    · have : x = g := by simpa [labN, Value.ownBlock] using hx.symm
      subst this; exact hg
/-- The third one: its new element is a block that was made just before. -/
theorem RN.stepW (h : RN W w k bR vG vT vW vQ jG jT jQ vs) {g cap gw : Nat} {w0 : World} (hb0 : Below w.heap.size w w0) (hgw : w.heap.size ≤ gw) (hw0 : Has w0 gw 49 (wordsV (List.replicate k 0)))
    (ho : Own1 W.heap.size 33 w1 (.slice (some ⟨g, 0, none⟩) (vs.length + 1) cap) (slV k vs ++ [.slice (some ⟨gw, 0, none⟩) k k])) (hk : Kept (fun b => vW.ownBlock = some b) w0 w1) (hg : vW.ownBlock = some g ∨ w0.heap.size ≤ g) :
    RN W (w1.setCell ⟨bR, 2, none⟩ (.slice (some ⟨g, 0, none⟩) (vs.length + 1) cap)) k bR vG vT (.slice (some ⟨g, 0, none⟩) (vs.length + 1) cap) vQ jG jT jQ (vs ++ [gw]) := by
  have h0 := h.below hb0
  obtain ⟨r0, r1, r2, r3, r4, r5, r6⟩ := h0.rest 3 vW rfl (by decide) (by decide) (fun b hb => h.v.ge hb) hk 2 (.slice (some ⟨g, 0, none⟩) (vs.length + 1) cap)
  have hgb : ∀ x, (Value.slice (some ⟨g, 0, none⟩) (vs.length + 1) cap).ownBlock = some x → ¬ x = bR := fun x hx e => by
    have : x = g := by simpa [Value.ownBlock] using hx.symm
    subst this
    rcases hg with hg | hg
    · exact absurd (h.ap 3 0 x hg (by rw [e]; rfl)) (by decide)
    · have := h0.hd.lt; omega
  have hgwb : gw ≠ bR := fun e => by have := h.hd.lt; omega
  have hlow := h.lo.size
  refine ⟨r0.store 2 _, r1 (by decide), r2 (by decide), ?_, r4 (by decide), fun b hb => ?_, ?_, h.bR, r6⟩
  · have : slV k (vs ++ [gw]) = slV k vs ++ [.slice (some ⟨gw, 0, none⟩) k k] := by simp [slV]
    rw [this]; exact ho.kept (kept_cell w1 bR 2 _) hgb
  · rcases List.mem_append.1 hb with hb | hb
    · exact r5 b hb
    · rw [List.mem_singleton.1 hb]
      exact ⟨by omega, (hw0.kept hk (fun e => by have := h.v.lt e; omega)).kept (kept_cell w1 bR 2 _) hgwb⟩
  · have i1 : Inj (labN bR vG vT vW vQ (vs ++ [gw])) := by
      refine h.ap.set (vs.length + 5) w.heap.size (fun b hb => ?_) h.lt (fun x hx => ?_)
      · match b, hb with
        | 0, _ => rfl
        | 1, _ => rfl
        | 2, _ => rfl
        | 3, _ => rfl
        | 4, _ => rfl
        | n + 5, hb =>
          show (vs ++ [gw])[n]? = vs[n]?
          rcases Nat.lt_trichotomy n vs.length with hh | hh | hh
          · rw [List.getElem?_append_left hh]
          · exact absurd (by rw [hh]) hb
          · rw [List.getElem?_eq_none (by simp; omega), List.getElem?_eq_none (by omega)]
      · have hx2 : (vs ++ [gw])[vs.length]? = some x := hx
        have : x = gw := by simpa using hx2.symm
        exact .inr (by omega)
    refine i1.set 3 w0.heap.size (fun b hb => ?_) (fun b y hb => ?_) (fun x hx => ?_)
    · match b, hb with
      | 0, _ => rfl
      | 1, _ => rfl
      | 2, _ => rfl
      | 3, hb => exact absurd rfl hb
      | 4, _ => rfl
      | n + 5, _ => rfl
    · match b, hb with
      | 0, hb => exact h0.lt 0 y hb
      | 1, hb => exact h0.lt 1 y hb
      | 2, hb => exact h0.lt 2 y hb
      | 3, hb => exact h0.lt 3 y hb
      | 4, hb => exact h0.lt 4 y hb
      | n + 5, hb =>
        have hm := List.mem_of_getElem? (show (vs ++ [gw])[n]? = some y from hb)
        rcases List.mem_append.1 hm with hm | hm
        · exact (h0.ws y hm).2.lt
        · rw [List.mem_singleton.1 hm]; exact hw0.lt
    · have : x = g := by simpa [labN, Value.ownBlock] using hx.symm
      subst this; exact hg
end
end Go.Proofs.Ytbmapjbjpgoibaa
