/- What holds between two calls of a script over a slab and the document's own one. -/
import Derived.Test.YtbmapjbjpgoibaaRef11
namespace Go.Proofs.Ytbmapjbjpgoibaa
open Go.ChangeShapes Go.WideShapes Go.ChangeAt Go.RowKit
set_option linter.unusedVariables false

/-- A number that an int has. -/
def Small (z : Int) : Prop := z ≤ 9223372036854775807
theorem small_wf {z : Int} (h : (Lit.int .i64 z).wf = true) : Small z := by
  have hx : -9223372036854775808 ≤ z ∧ z ≤ 9223372036854775807 := by simpa [Lit.wf, IntKind.min, IntKind.max, IntKind.signed, IntKind.bits] using h
  exact hx.2
/-- What of tells: some handle that an int has. -/
def SmallInt (w : World) (e : Ending) (w' : World) : Prop := ∃ z : Int, e = .returned (.int .i64 z) ∧ Small z ∧ Below w.heap.size w w'
set_option maxRecDepth 100000 in
theorem of_small (d h : Int) (own : Bool) (A L : Option Addr) (len cap lcap : Nat) (xs : List Int) (w : World) (hx : IntsAt w L lcap xs) (hl : xs.length ≤ 1000) (hsm : Small h) (hxs : ∀ z ∈ xs, Small z) :
    Calls Try.prog 13 #[.agg #[.int .i64 d, .int .i64 h, .bool own, .slice A len cap], .slice L xs.length lcap] w (SmallInt w) := by
  have HX := Lib.hid hx
  have HSM := Lib.hid hsm
  have hc := hx.1
  clear hx hsm
  cases own with
  | false =>
    clear hxs
    go_enter Try.func13, Try.ntmps13
    go_wp2
    go_ret
    exact ⟨h, rfl, HSM.out, (Below.refl _ _).alloc (Nat.le_refl _) _⟩
  | true =>
    by_cases h0 : 0 ≤ h ∧ h < xs.length
    · obtain ⟨h1, h2⟩ := h0
      obtain ⟨q, rfl⟩ := Int.eq_ofNat_of_zero_le h1
      obtain ⟨g, rfl, hcell⟩ := HX.out.2 (by omega)
      obtain ⟨r, hr⟩ : ∃ r : Nat, r = xs.length - 1 - q := ⟨_, rfl⟩
      have hr2 : (xs.length : Int) - 1 - (q : Int) = (r : Int) := by omega
      have hrl : r < xs.length := by omega
      have hg : g < w.heap.size := block_lt_of_cell (hcell r _ (List.getElem?_eq_getElem hrl))
      have d2 := hcell r _ (List.getElem?_eq_getElem hrl)
      have HZ := Lib.hid (hxs _ (List.getElem_mem hrl))
      clear hxs
      generalize xs[r] = z at *
      generalize xs.length = n at *
      have t1 : decide (q < n) = true := by simp; omega
      clear hcell hr
      go_enter Try.func13, Try.ntmps13
      go_wp2
      go_ret
      exact ⟨z, rfl, HZ.out, (Below.refl _ _).alloc (Nat.le_refl _) _⟩
    · by_cases h1 : 0 ≤ h
      · have h2 : ¬ h < (xs.length : Int) := by omega
        clear hxs
        generalize xs.length = n at *
        clear h0
        go_enter Try.func13, Try.ntmps13
        go_wp2
        go_ret
        exact ⟨h, rfl, HSM.out, (Below.refl _ _).alloc (Nat.le_refl _) _⟩
      · clear h0 hxs
        go_enter Try.func13, Try.ntmps13
        go_wp2
        go_ret
        exact ⟨h, rfl, HSM.out, (Below.refl _ _).alloc (Nat.le_refl _) _⟩

theorem ref_Free' (bR : Nat) (r : RB) (hr : r.bR = bR) (k : Nat) (s : Sl) (w : World) (h : IsRef w r k s) :
    Calls Try.prog 24 #[.pointer (some ⟨bR, 0, none⟩)] w fun e w' => e = .returned (.int .i64 s.free.length) ∧ w = w' := by subst hr; exact ref_Free r k s w h
theorem ref_Live' (bR : Nat) (r : RB) (hr : r.bR = bR) (k : Nat) (s : Sl) (w : World) (h : IsRef w r k s) :
    Calls Try.prog 27 #[.pointer (some ⟨bR, 0, none⟩)] w (LiveTold s.live w) := by subst hr; exact ref_Live r k s w h
/-- Between two calls. -/
structure SInv (FT : Nat → Prop) (W w : World) (bP bC bF k n j : Nat) (r : RB) (s : Sl) (v1 : Value) (all : List Int) : Prop where
  sl : SlabIn FT w bP bC bF k s
  rf : IsRef w r k s
  ap : ∀ b ∈ r.all, ¬ FT b
  ge : ∀ b ∈ r.all, W.heap.size ≤ b
  ok : s.Ok j
  len : s.cells.length = n
  g1 : Giv (fun b => FT b ∨ b ∈ r.all) W.heap.size w v1 all
  l1 : all.length ≤ j
  sm : ∀ z ∈ all, Small z
  lo : Below W.heap.size W w
section
variable {FT : Nat → Prop} {W w w1 w2 : World} {bP bC bF k n j : Nat} {r r' : RB} {s s' : Sl} {v1 : Value} {all : List Int}
theorem SInv.below (h : SInv FT W w bP bC bF k n j r s v1 all) (hb : Below w.heap.size w w1) : SInv FT W w1 bP bC bF k n j r s v1 all :=
  ⟨h.sl.below hb, h.rf.below hb, h.ap, h.ge, h.ok, h.len, h.g1.below hb, h.l1, h.sm, h.lo.trans (hb.mono h.lo.size)⟩
theorem SInv.next (h : SInv FT W w bP bC bF k n j r s v1 all) : SInv FT W w bP bC bF k n (j + 1) r s v1 all :=
  ⟨h.sl, h.rf, h.ap, h.ge, h.ok.mono (Nat.le_succ _), h.len, h.g1, Nat.le_succ_of_le h.l1, h.sm, h.lo⟩
/-- The document's one, when the slab has been called. -/
theorem SInv.rf1 (h : SInv FT W w bP bC bF k n j r s v1 all) (hK : Kept FT w w1) : IsRef w1 r k s := h.rf.kept hK h.ap
/-- Both have been called. -/
theorem SInv.call (h : SInv FT W w bP bC bF k n j r s v1 all) (hlo : ∀ b, FT b → W.heap.size ≤ b) (hS : SlabIn FT w1 bP bC bF k s') (hK : Kept FT w w1) (hR : IsRef w2 r' k s') (hK2 : Kept (fun b => b ∈ r.all) w1 w2) (hr : ∀ b ∈ r'.all, b ∈ r.all ∨ w1.heap.size ≤ b) (ho : s'.Ok (j + 1)) (hl : s'.cells.length = n) : SInv FT W w2 bP bC bF k n (j + 1) r' s' v1 all := by
  have hb1 : Below W.heap.size W w1 := h.lo.trans (hK.below h.lo.size (fun i hi hf => by have := hlo i hf; omega))
  have hb2 : Below W.heap.size W w2 := hb1.trans (hK2.below hb1.size (fun i hi hf => by have := h.ge i hf; omega))
  have g1 := h.g1.kept hK (fun b hb => .inl hb)
  have g2 := g1.kept hK2 (fun b hb => .inr hb)
  refine ⟨hS.kept hK2 (fun b hb hm => h.ap b hm hb), hR, fun b hb hf => ?_, fun b hb => ?_, ho, hl, ⟨g2.1, g2.2.1, fun b hb hor => ?_⟩, Nat.le_succ_of_le h.l1, h.sm, hb2⟩
  · rcases hr b hb with hm | hm
    · exact h.ap b hm hf
    · have := hS.lt hf; omega
  · rcases hr b hb with hm | hm
    · exact h.ge b hm
    · have := hb1.size; omega
  · rcases hor with hf | hm
    · exact g2.2.2 b hb (.inl hf)
    · rcases hr b hm with hm | hm
      · exact g2.2.2 b hb (.inr hm)
      · have := own_lt g1.1 hb; omega
theorem SInv.ltN (h : SInv FT W w bP bC bF k n j r s v1 all) : ∀ b, (FT b ∨ b ∈ r.all) → b < w.heap.size := fun b hb => hb.elim (fun hf => h.sl.lt hf) (fun hm => h.rf.lt b hm)
/-- One more handle. -/
theorem SInv.more {v1' : Value} {z : Int} (h : SInv FT W w bP bC bF k n (j + 1) r s v1 all) (hl : all.length ≤ j) (hz : Small z) (hG : Giv (fun b => FT b ∨ b ∈ r.all) W.heap.size w1 v1' (all ++ [z])) (hK : Kept (fun b => ¬ (FT b ∨ b ∈ r.all) ∧ W.heap.size ≤ b) w w1) :
    SInv FT W w1 bP bC bF k n (j + 1) r s v1' (all ++ [z]) :=
  ⟨h.sl.kept hK (fun b hf hg => hg.1 (.inl hf)), h.rf.kept hK (fun b hm hg => hg.1 (.inr hm)), h.ap, h.ge, h.ok, h.len, hG, by simp; omega, fun x hx => by
    rcases List.mem_append.1 hx with hx | hx
    · exact h.sm x hx
    · rw [List.mem_singleton.1 hx]; exact hz, h.lo.trans (hK.below h.lo.size (fun i hi hf => by omega))⟩
end
end Go.Proofs.Ytbmapjbjpgoibaa
