/- The document's own wheel: Add. -/
import Derived.Test.YtknehglahdkafaaDoorWref2
namespace Go.Proofs.YtknehglahdkafaaDoor
open Go.ChangeShapes Go.WideShapes Go.ChangeAt Go.RowKit
set_option linter.unusedVariables false

/-- 'append(s, x...)', s an empty list of one's own, at a step of a region that draws. -/
theorem step_spread (u : World) (B g0 : Nat) {ops : Array Oper} {o : Oper} {a : Act} {K : Act → World → Prop} {Q : Exit → Act → World → Prop} {E : Prop} (hgd : o.guard = none) (s x : Operand)
    (ho : o.op = .call { callee := .builtin .append, args := #[s, x], argTypes := #[26, 26] }) (A : Option Addr) (m c : Nat) (l : List Nat) (hl : l.length = m)
    (hs : a.eval s = .slice (some ⟨g0, 0, none⟩) 0 0) (hx : a.eval x = .slice A m c) (hO : u.ownsRow B 3 1 (.slice (some ⟨g0, 0, none⟩) 0 0) 0 (idsV [])) (hI : IntsAt u A c (l.map fun (x : Nat) => (x : Int))) (hm : m ≤ 1000) (hB : B ≤ u.heap.size)
    (h : ∀ g cap w', w'.ownsRow B 3 1 (.slice (some ⟨g, 0, none⟩) m cap) m (idsV l) → Kept (fun b => b = g0) u w' → (g = g0 ∨ u.heap.size ≤ g) → K (a.put o.dst (.slice (some ⟨g, 0, none⟩) m cap)) w') :
    if Region.wanted o (yielded ops a.tmps) = true then Oper.wp Tryd.prog o a u K Q else E := by
  have hwt : Region.wanted o (yielded ops a.tmps) = true := by simp [Region.wanted, hgd]
  rw [if_pos hwt]
  obtain ⟨i0, hi, hz0, hz1, hz2⟩ := info_parts Tryd.infoInt
  by_cases h0 : 0 < m
  · obtain ⟨b, rfl, hcell⟩ := hI.2 (by rw [List.length_map]; omega)
    refine wp_append_lies _ s x 26 ho B 3 i0 (.int .i64 0) 1 8 Tryd.underlying26 hi hz0 hz1 hz2 rfl (by decide) _ 0 (idsV []) hs hO ⟨b, 0, none⟩ m c (idsV l) hx (by rw [idsV_len]; omega) ?_ (idsV_one l) h0 (by unfold maxLen; omega) (by omega) hB _ rfl ?_
    · intro j v hv
      rw [show (⟨b, 0, none⟩ : Addr).add j = ⟨b, j, none⟩ by unfold Addr.add; split <;> simp_all]
      rw [idsV, List.getElem?_map] at hv
      cases hx2 : l[j]? with
      | none => rw [hx2] at hv; cases hv
      | some y =>
        rw [hx2] at hv
        rw [hcell j (y : Int) (by rw [List.getElem?_map, hx2]; rfl), ← hv]
        rfl
    · intro g cap w' hown hgrow hor hlt
      have hrow : ∀ g, Value.ownBlock (.slice (some ⟨g0, 0, none⟩) 0 0) = some g → g = g0 := fun g hg => by simpa [Value.ownBlock] using hg.symm
      rw [Nat.zero_add] at hown ⊢
      exact h g cap w' hown ((Kept.refl (fun b => b = g0) u).grown hgrow (fun g hg => .inl (hrow g hg))) (hor.imp (hrow g) (fun e => by omega))
  · obtain rfl : m = 0 := by omega
    obtain rfl : l = [] := List.length_eq_zero_iff.1 hl
    have hsrc : Src Tryd.prog i0.size 26 (.slice A 0 c) 0 [] u := by
      cases A with
      | none => exact Src.ofNil _ Tryd.underlying26 c
      | some ad => exact Src.ofSlice _ Tryd.underlying26 ad 0 c [] (by simp) (fun j u hu => by simp at hu) (fun u hu => by cases hu)
    have hr := run_append_nothing (P := Tryd.prog) u 26 26 o.type 3 i0 Tryd.underlying26 hi (some ⟨g0, 0, none⟩) 0 0 (Nat.le_refl _) _ hsrc
    unfold Oper.wp execOp
    simp only [ho, resolve, invoke, builtin, Sem.run_bind, Sem.run_pure, Result.andThen_ok, List.map_toArray, List.map_cons, List.map_nil, hs, hx, hr]
    exact h g0 0 u hO (Kept.refl _ _) (.inl rfl)
/-- 'append(s, x)', x laid in a block of its own. -/
theorem step_row1 (u : World) (B g m cap hb : Nat) {ops : Array Oper} {o : Oper} {a : Act} {K : Act → World → Prop} {Q : Exit → Act → World → Prop} {E : Prop} (hgd : o.guard = none) (s x : Operand)
    (ho : o.op = .call { callee := .builtin .append, args := #[s, x], argTypes := #[26, 26] }) (l : List Nat) (y : Nat)
    (hs : a.eval s = .slice (some ⟨g, 0, none⟩) m cap) (hx : a.eval x = .slice (some ⟨hb, 0, none⟩) 1 1) (hO : u.ownsRow B 3 1 (.slice (some ⟨g, 0, none⟩) m cap) m (idsV l)) (hc : u.cell? ⟨hb, 0, none⟩ = some (.int .i64 (y : Int))) (hm : m ≤ 1000) (hB : B ≤ u.heap.size)
    (h : ∀ g' cap' w', w'.ownsRow B 3 1 (.slice (some ⟨g', 0, none⟩) (m + 1) cap') (m + 1) (idsV (l ++ [y])) → Kept (fun b => b = g) u w' → (g' = g ∨ u.heap.size ≤ g') → g' < w'.heap.size → K (a.put o.dst (.slice (some ⟨g', 0, none⟩) (m + 1) cap')) w') :
    if Region.wanted o (yielded ops a.tmps) = true then Oper.wp Tryd.prog o a u K Q else E := by
  obtain ⟨i0, hi, hz0, hz1, hz2⟩ := info_parts Tryd.infoInt
  refine step_append_lies _ hgd s x 26 ho B 3 i0 (.int .i64 0) 1 8 Tryd.underlying26 hi hz0 hz1 hz2 rfl (by decide) _ m (idsV l) hs hO ⟨hb, 0, none⟩ 1 1 [.int .i64 (y : Int)] hx rfl ?_ (by intro v hv; rw [List.mem_singleton.1 hv]; rfl) (by decide) (by unfold maxLen; omega) (by omega) hB _ rfl ?_
  · intro j v hv
    have hj : j = 0 := by
      have := (List.getElem?_eq_some_iff.1 hv).1
      simp at this
      exact this
    subst hj
    simp at hv
    rw [show (⟨hb, 0, none⟩ : Addr).add 0 = ⟨hb, 0, none⟩ by unfold Addr.add; split <;> simp_all, hc, hv]
  · intro g' cap' w' hown hgrow hor hlt
    have hrow : ∀ z, Value.ownBlock (.slice (some ⟨g, 0, none⟩) m cap) = some z → z = g := fun z hz => by simpa [Value.ownBlock] using hz.symm
    have e : idsV (l ++ [y]) = idsV l ++ [.int .i64 (y : Int)] := by simp [idsV]
    exact h g' cap' w' (by rw [e]; exact hown) ((Kept.refl (fun b => b = g) u).grown hgrow (fun z hz => .inl (hrow z hz))) (hor.imp (hrow g') (fun e => by omega)) hlt
theorem rAdd_bad (bR : Nat) (p q : Int) (w : World) (hh : ¬ (0 ≤ p ∧ p < 64 ∧ 0 ≤ q ∧ q ≤ 1048575)) : Calls Tryd.prog 22 #[.pointer (some ⟨bR, 0, none⟩), .int .i64 p, .int .i64 q] w fun e w' => e = .returned (.int .i64 1) ∧ w = w' := by
  by_cases a1 : p < 0
  · clear hh
    go_enter Tryd.func22, Tryd.ntmps22
    go_wp2
    go_ret
    exact ⟨rfl, rfl⟩
  by_cases a2 : 63 < p
  · clear hh
    go_enter Tryd.func22, Tryd.ntmps22
    go_wp2
    go_ret
    exact ⟨rfl, rfl⟩
  by_cases a3 : q < 0
  · clear hh
    go_enter Tryd.func22, Tryd.ntmps22
    go_wp2
    go_ret
    exact ⟨rfl, rfl⟩
  have a4 : 1048575 < q := by omega
  clear hh
  go_enter Tryd.func22, Tryd.ntmps22
  go_wp2
  go_ret
  exact ⟨rfl, rfl⟩
/-- What an Add of the document's wheel tells. -/
def RAdd (bR : Nat) (N : Nat → Prop) (R' : Nat → List Nat) (w : World) (e : Ending) (w' : World) : Prop := ∃ vs', e = .returned (.int .i64 0) ∧ RW w' bR N R' vs' ∧ Kept (fun b => b = bR) w w'
/-- The end of Add: the new row is stored. -/
theorem radd_end {bR : Nat} {N : Nat → Prop} {R : Nat → List Nat} {vs : List Value} {w0 w5 : World} {i x g cap n : Nat} (h : RW w0 bR N R vs) (hi : i < 64) (hN : ∀ b, N b → b < w0.heap.size) (hn : (R i).length = n) (hB : Below w0.heap.size w0 w5) (hO : w5.ownsRow w0.heap.size 3 1 (.slice (some ⟨g, 0, none⟩) (n + 1) cap) (n + 1) (idsV (R i ++ [x]))) (hg : w0.heap.size ≤ g) (hgl : g < w5.heap.size) (ht : tot R 64 ≤ 800) :
    RW (w5.setCell ⟨bR, i, none⟩ (.slice (some ⟨g, 0, none⟩) (n + 1) cap)) bR N (upd R i (R i ++ [x])) (vs.set i (.slice (some ⟨g, 0, none⟩) (n + 1) cap)) ∧ Kept (fun b => b = bR) w0 (w5.setCell ⟨bR, i, none⟩ (.slice (some ⟨g, 0, none⟩) (n + 1) cap)) := by
  have hb := h.ar.lt
  refine ⟨(h.below hB).set hi (by simp [hn]) (ints_of_owns hO (by simp [hn])) (fun a e => by cases e; exact ⟨fun hz => by have := hN g hz; omega, by show g ≠ bR; omega, hgl⟩) ?_, Kept.setCell (F := fun b => b = bR) (Kept.of_below hB) (p := ⟨bR, i, none⟩) (.inl rfl) _⟩
  have := tot_upd R i (R i ++ [x]) 64 hi
  simp at this
  omega
end Go.Proofs.YtknehglahdkafaaDoor
