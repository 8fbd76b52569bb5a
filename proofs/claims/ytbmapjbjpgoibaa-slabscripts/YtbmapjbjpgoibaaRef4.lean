/- What a call that changes the document's slab tells. -/
import Derived.Test.YtbmapjbjpgoibaaRef3
import Derived.Deep.RegionLaw
namespace Go.Proofs.Ytbmapjbjpgoibaa
open Go.ChangeShapes Go.WideShapes Go.ChangeAt Go.RowKit
set_option linter.unusedVariables false

/-- What a call that changes the document's slab tells. -/
def RefTells (r : RB) (k : Nat) (s' : Sl) (v : Value) (w : World) (e : Ending) (w' : World) : Prop :=
  ∃ r' : RB, r'.bR = r.bR ∧ e = .returned v ∧ IsRef w' r' k s' ∧ Kept (fun b => b ∈ r.all) w w' ∧ ∀ b ∈ r'.all, b ∈ r.all ∨ w.heap.size ≤ b
theorem IsRef.lt {w : World} {r : RB} {k : Nat} {s : Sl} (h : IsRef w r k s) : ∀ b ∈ r.all, b < w.heap.size := by
  intro b hb
  obtain ⟨r1, g1, g2⟩ := h.g
  obtain ⟨r2, t1, t2⟩ := h.t
  obtain ⟨r3, v1, v2⟩ := h.v
  obtain ⟨r4, q1, q2⟩ := h.q
  unfold RB.all at hb
  simp only [List.mem_cons] at hb
  rcases hb with rfl | rfl | rfl | rfl | rfl | hb
  · exact h.hd.lt
  · exact g1.lt
  · exact t1.lt
  · exact v1.lt
  · exact q1.lt
  · obtain ⟨p, hp, rfl⟩ := List.mem_map.1 hb
    obtain ⟨i, hi, e⟩ := List.getElem_of_mem hp
    have hp2 : r.vs[i]? = some p := by rw [List.getElem?_eq_getElem hi, e]
    have hi2 : i < s.cells.length := by rw [← h.vl]; exact hi
    exact (h.ws i p s.cells[i] hp2 (List.getElem?_eq_getElem hi2)).2.lt
/-- 'append([]uint64{}, x...)' at a step of a region that draws. -/
theorem step_append_words (w : World) {ops : Array Oper} {o : Oper} {a : Act} {K : Act → World → Prop} {Q : Exit → Act → World → Prop} {E : Prop} (hgd : o.guard = none) (s x : Operand)
    (ho : o.op = .call { callee := .builtin .append, args := #[s, x], argTypes := #[33, 33] }) (A : Option Addr) (k c : Nat) (ns : List Nat)
    (hs : a.eval s = .slice (some ⟨w.heap.size, 0, none⟩) 0 0) (hx : a.eval x = .slice A k c) (hw : Words w A k ns) (hk : k ≤ 1000)
    (h : ∀ g cap w', w.heap.size ≤ g → k ≤ cap → OwnW w' g k ns → Below w.heap.size w w' → K (a.put o.dst (.slice (some ⟨g, 0, none⟩) k cap)) w') :
    if Region.wanted o (yielded ops a.tmps) = true then Oper.wp Try.prog o a (w.alloc (.cells #[] 49)) K Q else E := by
  have hwt : Region.wanted o (yielded ops a.tmps) = true := by simp [Region.wanted, hgd]
  rw [if_pos hwt]
  obtain ⟨i0, hi, hz0, hz1, hz2⟩ := info_parts Try.infoU
  have hb0 : Below w.heap.size w (w.alloc (.cells #[] 49)) := (Below.refl _ _).alloc (Nat.le_refl _) _
  obtain ⟨n1, n2, n3⟩ := words_news (hw.below hb0)
  have hown0 : (w.alloc (.cells #[] 49)).ownsRow w.heap.size 49 1 (.slice (some ⟨w.heap.size, 0, none⟩) 0 0) 0 [] := Has.owns (rest := []) (Has.made w 49 []) rfl rfl (by decide) (Nat.le_refl _)
  by_cases hm : 0 < k
  · obtain ⟨ad, rfl, hcell⟩ := n3 hm
    refine wp_append_lies _ s x 33 ho w.heap.size 49 i0 (.int .u64 0) 1 8 Try.underlying33 hi hz0 hz1 hz2 rfl (by decide) _ 0 [] hs hown0 ad k c (wordsV ns) hx (by omega) hcell n2 hm (by unfold maxLen; omega) (by omega) (by simp) _ rfl ?_
    intro g cap w' hown hgrow hor hlt
    rw [Nat.zero_add, List.nil_append] at hown
    obtain ⟨rest', hh, _, hcap⟩ := has_of_owns hown
    rw [Nat.zero_add]
    have hge : w.heap.size ≤ g := by
      rcases hor with hor | rfl
      · have : g = w.heap.size := by simpa [Value.ownBlock] using hor.symm
        omega
      · simp
    have hrow : ∀ g, Value.ownBlock (.slice (some ⟨w.heap.size, 0, none⟩) 0 0) = some g → g = w.heap.size := fun g hg => by simpa [Value.ownBlock] using hg.symm
    exact h g cap w' hge (by omega) (ownW_of_has hh hw.1 hw.2.1) (((Kept.of_below (F := fun b => w.heap.size ≤ b) hb0).grown hgrow (fun g hg => .inr (Nat.le_of_eq (hrow g hg).symm))).below (Nat.le_refl _) (fun b hb hf => absurd hf (by omega)))
  · obtain rfl : k = 0 := by omega
    obtain rfl : ns = [] := List.length_eq_zero_iff.1 hw.1
    have hsrc : Src Try.prog i0.size 33 (.slice A 0 c) 0 [] (w.alloc (.cells #[] 49)) := by
      cases A with
      | none => exact Src.ofNil _ Try.underlying33 c
      | some ad => exact Src.ofSlice _ Try.underlying33 ad 0 c [] (by simp) (fun j u hu => by simp at hu) (fun u hu => by cases hu)
    have hr := run_append_nothing (P := Try.prog) (w.alloc (.cells #[] 49)) 33 33 o.type 49 i0 Try.underlying33 hi (some ⟨w.heap.size, 0, none⟩) 0 0 (Nat.le_refl _) _ hsrc
    unfold Oper.wp execOp
    simp only [ho, resolve, invoke, builtin, Sem.run_bind, Sem.run_pure, Result.andThen_ok, List.map_toArray, List.map_cons, List.map_nil, hs, hx, hr]
    exact h w.heap.size 0 _ (Nat.le_refl _) (Nat.le_refl _) (ownW_of_has (rest := []) (by simpa [wordsV] using Has.made w 49 []) rfl (fun n hn => by cases hn)) hb0
end Go.Proofs.Ytbmapjbjpgoibaa
