/- Exact's added: one more hit behind a row of a call's own: what is laid ahead of its walk. -/
import Derived.Test.YtgdcgilhaedbmaaEx4
import Derived.Deep.AppendLies
import Derived.BigQuiet
import Derived.RegionTactic
-- prune
namespace Go.Proofs.Ytgdcgilhaedbmaa
open Go.ChangeShapes Go.WideShapes Go.ChangeAt Go.RowKit
set_option linter.unusedVariables false

/-- One place anew. -/
def putF (f : Nat → Int) (j : Nat) (x : Int) (i : Nat) : Int := if i = j then x else f i
theorem hv_snoc (f g : Nat → Int) (n : Nat) (x y : Int) : hv f g n ++ [.int .i64 x, .int .i64 y] = hv (putF f n x) (putF g n y) (n + 1) := by
  simp only [hv]
  rw [hv_congr (f := f) (g := g) (f' := putF f n x) (g' := putF g n y) (fun i hi => by unfold putF; rw [if_neg (by omega), if_neg (by omega)]; exact ⟨rfl, rfl⟩)]
  unfold putF
  rw [if_pos rfl, if_pos rfl]
/-- What added tells: a row of its own still, nothing else changed but the row that came. -/
def AddedH (B : Nat) (v : Value) (n : Nat) (f g : Nat → Int) (w : World) (e : Ending) (w' : World) : Prop :=
  ∃ v', e = .returned v' ∧ OwnH B w' v' n f g ∧ Kept (fun c => v.ownBlock = some c) w w'
theorem OwnH.kept {F : Nat → Prop} {B : Nat} {w w' : World} {v : Value} {n : Nat} {f g : Nat → Int} (h : OwnH B w v n f g) (hk : Kept F w w') (hF : ∀ c, v.ownBlock = some c → ¬ F c) : OwnH B w' v n f g := by
  obtain ⟨h1, h2 | ⟨gb, cap, cur, rfl, hb, hh, h3⟩⟩ := h
  · exact ⟨h1, .inl h2⟩
  · have hlt : gb < w.heap.size := by
      rcases Nat.lt_or_ge gb w.heap.size with q | q
      · exact q
      · rw [Array.getElem?_eq_none q] at hh; cases hh
    exact ⟨h1, .inr ⟨gb, cap, cur, rfl, hb, (hk.block gb hlt (hF gb rfl)).trans hh, h3⟩⟩
theorem OwnH.below {B : Nat} {w w' : World} {v : Value} {n : Nat} {f g : Nat → Int} (h : OwnH B w v n f g) (hb : Below w.heap.size w w') : OwnH B w' v n f g := h.kept (Kept.of_below (F := fun _ => False) hb) (fun _ _ => id)
theorem OwnH.lt {B : Nat} {w : World} {v : Value} {n : Nat} {f g : Nat → Int} (h : OwnH B w v n f g) {c : Nat} (hc : v.ownBlock = some c) : c < w.heap.size ∧ B ≤ c := by
  obtain ⟨h1, ⟨rfl, _⟩ | ⟨gb, cap, cur, rfl, hb, hh, h3⟩⟩ := h
  · simp [Value.ownBlock] at hc
  · have e : c = gb := by simpa [Value.ownBlock] using hc.symm
    subst e
    refine ⟨?_, hb⟩
    rcases Nat.lt_or_ge c w.heap.size with q | q
    · exact q
    · rw [Array.getElem?_eq_none q] at hh; cases hh
end Go.Proofs.Ytgdcgilhaedbmaa
