/- 'append(l, x)' as an equation of a run: for regions that draw and hold a call. -/
import Derived.Test.YtljllfopgpmekabSeq0
namespace Go.Proofs.Ytljllfopgpmekab
open Go.ChangeShapes Go.WideShapes Go.ChangeAt Go.RowKit
set_option linter.unusedVariables false

theorem run_append_seq {α : Type} {C : α → List Value} {m : Nat} {T S : TypeId} {z : Value} {by_ : Nat} (hC : ∀ x, (C x).length = m) (hm : 0 < m) (h1 : ∀ x, ∀ u ∈ C x, u.oneCell' = true) (B : Nat) (hS : Try.prog.underlying S = some (.slice T))
    (hI : (Try.prog.info? T).map (fun i => (i.zero, i.size, i.bytes)) = some (some z, m, by_)) (hz : z.cells.size = m) (hby : by_ ≤ 1000)
    (w : World) (ty : TypeId) (v : Value) (l : List α) (y : α) (H c : Nat) (T' : TypeId) (hb : Has w H T' (C y)) (hO : OwnSeq C m B T w v l) (hB : B ≤ w.heap.size) (hlen : l.length ≤ 100000) :
    ∃ g cap w', (Builtin.append_ #[S, S] ty #[v, .slice (some ⟨H, 0, none⟩) 1 c]).run Try.prog w = .ok (.slice (some ⟨g, 0, none⟩) (l.length + 1) cap) w' ∧
      OwnSeq C m B T w' (.slice (some ⟨g, 0, none⟩) (l.length + 1) cap) (l ++ [y]) ∧ Kept (fun b => v.ownBlock = some b) w w' ∧ (v.ownBlock = some g ∨ g = w.heap.size) ∧ g < w'.heap.size := by
  obtain ⟨i0, hi, hz0, hz1, hz2⟩ := info_parts hI
  obtain ⟨g, cap, w', hr, hown, hgrow, hor, hlt⟩ := run_append_lies (P := Try.prog) w S ty B T i0 z m by_ hS hi hz0 hz1 hz2 hz hm v l.length (l.flatMap C) hO ⟨H, 0, none⟩ 1 c (C y) (by rw [hC]; omega) (by
    intro j u hu
    rw [show (⟨H, 0, none⟩ : Addr).add j = ⟨H, j, none⟩ by unfold Addr.add; split <;> simp_all, hb.cell]
    exact hu) (h1 y) (by decide) (by unfold maxLen; omega) (by
    have : (l.length + 1) * by_ ≤ 100001 * 1000 := Nat.mul_le_mul (by omega) hby
    omega) hB _ rfl
  refine ⟨g, cap, w', hr, ?_, (Kept.refl _ _).grown hgrow (fun g hg => .inl hg), hor, hlt⟩
  unfold OwnSeq
  rw [List.flatMap_append, List.length_append]
  simpa using hown
end Go.Proofs.Ytljllfopgpmekab
