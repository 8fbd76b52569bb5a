/- A row of numbers laid anew; the document's own Give. -/
import Derived.Test.YtbmapjbjpgoibaaRef6
namespace Go.Proofs.Ytbmapjbjpgoibaa
open Go.ChangeShapes Go.WideShapes Go.ChangeAt Go.RowKit
set_option linter.unusedVariables false

/-- A slice reads as these small numbers. -/
def NatsAt (w : World) (A : Option Addr) (xs : List Nat) : Prop :=
  0 < xs.length → ∃ b off, A = some ⟨b, off, none⟩ ∧ b < w.heap.size ∧ ∀ (j x : Nat), xs[j]? = some x → w.cell? ⟨b, off + j, none⟩ = some (.int .i64 (x : Int))
theorem intsV_len (xs : List Nat) : (intsV xs).length = xs.length := by simp [intsV]
theorem intsV_app (xs ys : List Nat) : intsV (xs ++ ys) = intsV xs ++ intsV ys := by simp [intsV]
theorem intsV_one (xs : List Nat) : ∀ u ∈ intsV xs, u.oneCell' = true := fun u hu => by obtain ⟨n, _, rfl⟩ := List.mem_map.1 hu; rfl
/-- 'append([]int{..}, x...)' at a step of a region that draws. -/
theorem step_append_ints (w : World) (xs0 : List Nat) {ops : Array Oper} {o : Oper} {a : Act} {K : Act → World → Prop} {Q : Exit → Act → World → Prop} {E : Prop} (hgd : o.guard = none) (s x : Operand)
    (ho : o.op = .call { callee := .builtin .append, args := #[s, x], argTypes := #[32, 32] }) (A : Option Addr) (m c : Nat) (xs : List Nat) (n0 : Nat) (hn0 : xs0.length = n0)
    (hs : a.eval s = .slice (some ⟨w.heap.size, 0, none⟩) n0 n0) (hx : a.eval x = .slice A m c) (hm : xs.length = m) (hw : NatsAt w A xs) (hk : n0 + m ≤ 1000)
    (h : ∀ g cap w' rest, w.heap.size ≤ g → cap ≤ maxLen → Has w' g 3 (intsV (xs0 ++ xs) ++ rest) → n0 + m + rest.length = cap → Below w.heap.size w w' → K (a.put o.dst (.slice (some ⟨g, 0, none⟩) (n0 + m) cap)) w') :
    if Region.wanted o (yielded ops a.tmps) = true then Oper.wp Try.prog o a (w.alloc (.cells (intsV xs0).toArray 3)) K Q else E := by
  have hwt : Region.wanted o (yielded ops a.tmps) = true := by simp [Region.wanted, hgd]
  rw [if_pos hwt]
  obtain ⟨i0, hi, hz0, hz1, hz2⟩ := info_parts Try.infoInt
  have hb0 : Below w.heap.size w (w.alloc (.cells (intsV xs0).toArray 3)) := (Below.refl _ _).alloc (Nat.le_refl _) _
  have hmade : Has (w.alloc (.cells (intsV xs0).toArray 3)) w.heap.size 3 (intsV xs0) := Has.made w 3 (intsV xs0)
  have hown0 : (w.alloc (.cells (intsV xs0).toArray 3)).ownsRow w.heap.size 3 1 (.slice (some ⟨w.heap.size, 0, none⟩) n0 n0) n0 (intsV xs0) :=
    Has.owns (rest := []) (by rw [List.append_nil]; exact hmade) (by rw [intsV_len]; exact hn0) (show n0 + 0 = n0 from rfl) (by unfold maxLen; omega) (Nat.le_refl _)
  by_cases h0 : 0 < m
  · obtain ⟨b, off, rfl, hb, hcell⟩ := hw (by omega)
    refine wp_append_lies _ s x 32 ho w.heap.size 3 i0 (.int .i64 0) 1 8 Try.underlying32 hi hz0 hz1 hz2 rfl (by decide) _ n0 (intsV xs0) hs hown0 ⟨b, off, none⟩ m c (intsV xs) hx (by rw [intsV_len]; omega) ?_ (intsV_one xs) h0 (by unfold maxLen; omega) (by omega) (by simp) _ rfl ?_
    · intro j u hu
      rw [show (⟨b, off, none⟩ : Addr).add j = ⟨b, off + j, none⟩ by unfold Addr.add; split <;> simp_all, hb0.cell (p := ⟨b, off + j, none⟩) hb]
      rw [intsV, List.getElem?_map] at hu
      cases hx2 : xs[j]? with
      | none => rw [hx2] at hu; cases hu
      | some y =>
        rw [hx2] at hu
        rw [hcell j y hx2, ← hu]
        rfl
    · intro g cap w' hown hgrow hor hlt
      have hcm : cap ≤ maxLen := by
        rcases hown.2 with ⟨e, _⟩ | ⟨g', cap', cur, e, _, _, _, hc, _⟩
        · cases e
        · injection e with e1 e2 e3
          omega
      obtain ⟨rest', hh, _, hcap⟩ := has_of_owns hown
      have hrow : ∀ g, Value.ownBlock (.slice (some ⟨w.heap.size, 0, none⟩) n0 n0) = some g → g = w.heap.size := fun g hg => by simpa [Value.ownBlock] using hg.symm
      have hge : w.heap.size ≤ g := by
        rcases hor with hor | rfl
        · exact Nat.le_of_eq (hrow g hor).symm
        · simp
      exact h g cap w' rest' hge hcm (by rw [intsV_app]; exact hh) hcap (((Kept.of_below (F := fun b => w.heap.size ≤ b) hb0).grown hgrow (fun g hg => .inr (Nat.le_of_eq (hrow g hg).symm))).below (Nat.le_refl _) (fun b hb hf => absurd hf (by omega)))
  · obtain rfl : m = 0 := by omega
    obtain rfl : xs = [] := List.length_eq_zero_iff.1 hm
    have hsrc : Src Try.prog i0.size 32 (.slice A 0 c) 0 [] (w.alloc (.cells (intsV xs0).toArray 3)) := by
      cases A with
      | none => exact Src.ofNil _ Try.underlying32 c
      | some ad => exact Src.ofSlice _ Try.underlying32 ad 0 c [] (by simp) (fun j u hu => by simp at hu) (fun u hu => by cases hu)
    have hr := run_append_nothing (P := Try.prog) (w.alloc (.cells (intsV xs0).toArray 3)) 32 32 o.type 3 i0 Try.underlying32 hi (some ⟨w.heap.size, 0, none⟩) n0 n0 (Nat.le_refl _) _ hsrc
    unfold Oper.wp execOp
    simp only [ho, resolve, invoke, builtin, Sem.run_bind, Sem.run_pure, Result.andThen_ok, List.map_toArray, List.map_cons, List.map_nil, hs, hx, hr]
    exact h w.heap.size n0 _ [] (Nat.le_refl _) (by unfold maxLen; omega) (by rw [List.append_nil, List.append_nil]; exact hmade) (by simp) hb0
end Go.Proofs.Ytbmapjbjpgoibaa
