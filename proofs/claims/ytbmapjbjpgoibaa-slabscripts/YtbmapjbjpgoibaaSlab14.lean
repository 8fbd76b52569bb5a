/- The list of the handles, carried over a call that changes the slab. -/
import Derived.Test.YtbmapjbjpgoibaaSlab13
namespace Go.Proofs.Ytbmapjbjpgoibaa
open Go.ChangeShapes Go.WideShapes Go.ChangeAt Go.RowKit
set_option linter.unusedVariables false

theorem live_at' {hs : List Int} {w w' : World} {e : Ending} (h : LiveTold hs w e w') : ∃ A cap, e = .returned (.slice A hs.length cap) ∧ IntsAt w' A cap hs ∧ Below w.heap.size w w' ∧ ∀ a, A = some a → w.heap.size ≤ a.block := by
  obtain ⟨v, rfl, hrow, hnil, hb⟩ := h
  obtain ⟨A, cap, rfl, h2, h4, _, h3⟩ := ints_of_row hrow hnil
  exact ⟨A, cap, rfl, intsAt_of h2 h3, hb, fun a e => (h4 a e).1⟩
theorem IntsAt.kept {F : Nat → Prop} {w w' : World} {A : Option Addr} {cap : Nat} {xs : List Int} (h : IntsAt w A cap xs) (hk : Kept F w w') (hA : ∀ a, A = some a → ¬ F a.block) : IntsAt w' A cap xs := by
  refine ⟨h.1, fun h0 => ?_⟩
  obtain ⟨g, rfl, hc⟩ := h.2 h0
  refine ⟨g, rfl, fun i z hz => ?_⟩
  have h1 := hc i z hz
  have hlt := block_lt_of_cell h1
  exact (World.cell?_of_block (w := w) (hk.block g hlt (hA _ rfl))).trans h1
theorem IntsAt.below {w w' : World} {A : Option Addr} {cap : Nat} {xs : List Int} (h : IntsAt w A cap xs) (hb : Below w.heap.size w w') : IntsAt w' A cap xs :=
  h.kept (F := fun _ => False) (Kept.of_below hb) (fun _ _ => id)
end Go.Proofs.Ytbmapjbjpgoibaa
