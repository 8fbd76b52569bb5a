/- What holds between two calls of a script over a slab. -/
import Derived.Test.YtbmapjbjpgoibaaSlab11
namespace Go.Proofs.Ytbmapjbjpgoibaa
open Go.ChangeShapes Go.WideShapes Go.ChangeAt Go.RowKit
set_option linter.unusedVariables false

theorem wf_u64 {n : Int} (h : (Lit.int .u64 n).wf = true) : 0 ≤ n ∧ n < 18446744073709551616 := by
  have hx : 0 ≤ n ∧ n ≤ 18446744073709551615 := by simpa [Lit.wf, IntKind.min, IntKind.max, IntKind.signed, IntKind.bits] using h
  omega
/-- Words that came in. -/
theorem words_in {w : World} {A : Option Addr} {len cap : Nat} {zs : List Int} (h : IsInts .u64 w A len cap zs) : len ≤ cap ∧ ∃ ns, Words w A len ns := by
  rcases h with ⟨rfl, rfl, rfl, rfl⟩ | ⟨x, rfl, hl, hm, hz, hc, hw⟩
  · exact ⟨Nat.le_refl _, [], words_nil w⟩
  · refine ⟨hl, (zs.take len).map Int.toNat, by simp; omega, fun n hn => ?_, fun h0 => ?_⟩
    · obtain ⟨z, hz1, rfl⟩ := List.mem_map.1 hn
      have := wf_u64 (hw z (List.mem_of_mem_take hz1))
      omega
    · obtain ⟨b, off, spot⟩ := x
      have h1 := hc 0 (by omega)
      have hspot : spot = none := by simpa [Addr.add] using World.cell?_spot h1
      subst hspot
      have e2 : ∀ i, (⟨b, off, none⟩ : Addr).add i = ⟨b, off + i, none⟩ := fun i => by unfold Addr.add; split <;> simp_all
      have hlt : b < w.heap.size := by
        have := block_lt_of_cell h1
        rw [e2] at this
        exact this
      refine ⟨b, off, rfl, hlt, fun i hi => ?_⟩
      have hi2 : i < (zs.take len).length := by simp; omega
      have hi3 : i < ((zs.take len).map Int.toNat).length := by rw [List.length_map]; exact hi2
      have := wf_u64 (hw _ (List.mem_of_mem_take (List.getElem_mem hi2)))
      rw [← e2, hc i (by omega), at_nat hi3, List.getElem_map]
      rw [show zs.getD i 0 = (zs.take len)[i] by rw [List.getElem_take, List.getD_eq_getElem?_getD, List.getElem?_eq_getElem (by omega)]; rfl]
      rw [show (((zs.take len)[i].toNat : Nat) : Int) = (zs.take len)[i] by omega]

/-- Between two calls. -/
structure GInv (FT : Nat → Prop) (W w : World) (bP bC bF k n j : Nat) (s : Sl) (v1 v2 : Value) (all gone : List Int) : Prop where
  sl : SlabIn FT w bP bC bF k s
  ok : s.Ok j
  len : s.cells.length = n
  g1 : Giv (fun b => FT b ∨ v2.ownBlock = some b) W.heap.size w v1 all
  g2 : Giv FT W.heap.size w v2 gone
  l1 : all.length ≤ j
  l2 : gone.length ≤ j
  gn : ∀ h ∈ gone, Gone s h
  lo : Below W.heap.size W w
section
variable {FT : Nat → Prop} {W w w' : World} {bP bC bF k n j : Nat} {s s' : Sl} {v1 v2 : Value} {all gone : List Int}
theorem GInv.below (h : GInv FT W w bP bC bF k n j s v1 v2 all gone) (hb : Below w.heap.size w w') : GInv FT W w' bP bC bF k n j s v1 v2 all gone :=
  ⟨h.sl.below hb, h.ok, h.len, h.g1.below hb, h.g2.below hb, h.l1, h.l2, h.gn, h.lo.trans (hb.mono h.lo.size)⟩
theorem GInv.next (h : GInv FT W w bP bC bF k n j s v1 v2 all gone) : GInv FT W w bP bC bF k n (j + 1) s v1 v2 all gone :=
  ⟨h.sl, h.ok.mono (Nat.le_succ _), h.len, h.g1, h.g2, Nat.le_succ_of_le h.l1, Nat.le_succ_of_le h.l2, h.gn, h.lo⟩
/-- A call of the slab. -/
theorem GInv.call (h : GInv FT W w bP bC bF k n j s v1 v2 all gone) (hlo : ∀ b, FT b → W.heap.size ≤ b) (hS : SlabIn FT w' bP bC bF k s') (hK : Kept FT w w') (ho : s'.Ok (j + 1)) (hl : s'.cells.length = n) (hg : ∀ h ∈ gone, Gone s' h) : GInv FT W w' bP bC bF k n (j + 1) s' v1 v2 all gone :=
  ⟨hS, ho, hl, h.g1.kept hK (fun b hb => .inl hb), h.g2.kept hK (fun b hb => hb), Nat.le_succ_of_le h.l1, Nat.le_succ_of_le h.l2, hg, h.lo.trans (hK.below h.lo.size (fun i hi hf => by have := hlo i hf; omega))⟩
/-- One more in the first list. -/
theorem GInv.more1 {v1' : Value} {z : Int} (h : GInv FT W w bP bC bF k n (j + 1) s v1 v2 all gone) (hl : all.length ≤ j) (hG : Giv (fun b => FT b ∨ v2.ownBlock = some b) W.heap.size w' v1' (all ++ [z])) (hK : Kept (fun b => ¬ (FT b ∨ v2.ownBlock = some b) ∧ W.heap.size ≤ b) w w') :
    GInv FT W w' bP bC bF k n (j + 1) s v1' v2 (all ++ [z]) gone :=
  ⟨h.sl.kept hK (fun b hf hg => hg.1 (.inl hf)), h.ok, h.len, hG, ⟨ownsRow_kept h.g2.1 hK (fun b hb hg => hg.1 (.inr hb)), h.g2.2⟩, by simp; omega, h.l2, h.gn, h.lo.trans (hK.below h.lo.size (fun i hi hf => by omega))⟩
/-- The second list, seen from the first one. -/
theorem GInv.g2' (h : GInv FT W w bP bC bF k n j s v1 v2 all gone) : Giv (fun b => FT b ∨ v1.ownBlock = some b) W.heap.size w v2 gone :=
  ⟨h.g2.1, h.g2.2.1, fun b hb hor => hor.elim (h.g2.2.2 b hb) (fun h1 => h.g1.2.2 b h1 (.inr hb))⟩
theorem GInv.more2 {v2' : Value} {z : Int} (h : GInv FT W w bP bC bF k n (j + 1) s v1 v2 all gone) (hl : gone.length ≤ j) (hz : Gone s z) (hG : Giv (fun b => FT b ∨ v1.ownBlock = some b) W.heap.size w' v2' (gone ++ [z])) (hK : Kept (fun b => ¬ (FT b ∨ v1.ownBlock = some b) ∧ W.heap.size ≤ b) w w') :
    GInv FT W w' bP bC bF k n (j + 1) s v1 v2' all (gone ++ [z]) :=
  ⟨h.sl.kept hK (fun b hf hg => hg.1 (.inl hf)), h.ok, h.len, ⟨ownsRow_kept h.g1.1 hK (fun b hb hg => hg.1 (.inr hb)), h.g1.2.1, fun b hb hor => hor.elim (fun hf => h.g1.2.2 b hb (.inl hf)) (fun h2 => hG.2.2 b h2 (.inr hb))⟩,
    ⟨hG.1, hG.2.1, fun b hb hf => hG.2.2 b hb (.inl hf)⟩, h.l1, by simp; omega, fun x hx => by
      rcases List.mem_append.1 hx with hx | hx
      · exact h.gn x hx
      · rw [List.mem_singleton.1 hx]; exact hz, h.lo.trans (hK.below h.lo.size (fun i hi hf => by omega))⟩
theorem own_lt {B : Nat} {e : TypeId} {n : Nat} {v : Value} {xs : List Value} (h : w.ownsRow B e 1 v n xs) {b : Nat} (hb : v.ownBlock = some b) : b < w.heap.size := by
  rcases h.2 with ⟨rfl, _⟩ | ⟨g, cap, cur, rfl, _, hh, _⟩
  · simp [Value.ownBlock] at hb
  · have : b = g := by simpa [Value.ownBlock] using hb.symm
    subst this
    rcases Nat.lt_or_ge b w.heap.size with hlt | hge
    · exact hlt
    · rw [Array.getElem?_eq_none hge] at hh; cases hh
theorem GInv.lt1 (h : GInv FT W w bP bC bF k n j s v1 v2 all gone) : ∀ b, (FT b ∨ v2.ownBlock = some b) → b < w.heap.size := fun b hb => hb.elim (fun hf => h.sl.lt hf) (fun h2 => own_lt h.g2.1 h2)
theorem GInv.lt2 (h : GInv FT W w bP bC bF k n j s v1 v2 all gone) : ∀ b, (FT b ∨ v1.ownBlock = some b) → b < w.heap.size := fun b hb => hb.elim (fun hf => h.sl.lt hf) (fun h2 => own_lt h.g1.1 h2)
end
/-- A slab's free row: empty, or its last one. -/
theorem free_cases (s : Sl) : s.free = [] ∨ ∃ fs i, s.free = fs ++ [i] := by
  cases h : s.free.reverse with
  | nil => left; simpa using h
  | cons i fs => right; exact ⟨fs.reverse, i, by rw [← List.reverse_reverse s.free, h]; simp⟩
end Go.Proofs.Ytbmapjbjpgoibaa
