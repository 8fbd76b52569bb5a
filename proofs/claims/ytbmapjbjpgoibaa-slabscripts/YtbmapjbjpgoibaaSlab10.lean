/- The document's own comparison of lists of numbers; what Live tells where all cells are taken. -/
import Derived.Test.YtbmapjbjpgoibaaSlab9
namespace Go.Proofs.Ytbmapjbjpgoibaa
open Go.ChangeShapes Go.WideShapes Go.ChangeAt Go.RowKit
set_option linter.unusedVariables false

/-- A slice reads as these numbers. -/
def IntsAt (w : World) (A : Option Addr) (cap : Nat) (xs : List Int) : Prop :=
  xs.length ≤ cap ∧ (0 < xs.length → ∃ g, A = some ⟨g, 0, none⟩ ∧ ∀ (i : Nat) z, xs[i]? = some z → w.cell? ⟨g, i, none⟩ = some (.int .i64 z))
theorem intsAt_of {w : World} {A : Option Addr} {cap : Nat} {xs : List Int} (h1 : xs.length ≤ cap) (h2 : ∀ (i : Nat) z, xs[i]? = some z → ∃ g, A = some ⟨g, 0, none⟩ ∧ w.cell? ⟨g, i, none⟩ = some (.int .i64 z)) : IntsAt w A cap xs := by
  refine ⟨h1, fun h0 => ?_⟩
  obtain ⟨g, rfl, _⟩ := h2 0 xs[0] (List.getElem?_eq_getElem h0)
  refine ⟨g, rfl, fun i z hz => ?_⟩
  obtain ⟨g', e, h⟩ := h2 i z hz
  cases e
  exact h
theorem Giv.at_ {FT : Nat → Prop} {B : Nat} {w : World} {v : Value} {G : List Int} (h : Giv FT B w v G) : ∃ A cap, v = .slice A G.length cap ∧ IntsAt w A cap G := by
  obtain ⟨A, cap, h1, h2, h3⟩ := h.cells
  exact ⟨A, cap, h1, intsAt_of h2 h3⟩
theorem live_at {hs : List Int} {w w' : World} {e : Ending} (h : LiveTold hs w e w') : ∃ A cap, e = .returned (.slice A hs.length cap) ∧ IntsAt w' A cap hs ∧ Below w.heap.size w w' := by
  obtain ⟨v, rfl, hrow, hnil, hb⟩ := h
  obtain ⟨A, cap, rfl, h2, _, _, h3⟩ := ints_of_row hrow hnil
  exact ⟨A, cap, rfl, intsAt_of h2 h3, hb⟩

set_option maxRecDepth 100000 in
theorem Ints_yes (A1 A2 : Option Addr) (cap1 cap2 : Nat) (xs : List Int) (w : World) (h1 : IntsAt w A1 cap1 xs) (h2 : IntsAt w A2 cap2 xs) (hl : xs.length ≤ 1000) :
    Calls Try.prog 25 #[.slice A1 xs.length cap1, .slice A2 xs.length cap2] w fun e w' => e = .returned (.bool true) ∧ ∃ m, w' = w.drewN m := by
  have H1 := Lib.hid h1
  have H2 := Lib.hid h2
  have c1 := h1.1
  have c2 := h2.1
  clear h1 h2
  go_enter Try.func25, Try.ntmps25
  go_wp2
  go_loopw [5] (fun i wr => ∃ k : Nat, k ≤ xs.length ∧ i = .int .i64 (k : Int) ∧ ∃ m, wr = w.drewN m) (fun i _ => xs.length - (intOf i).toNat)
  case atStart => exact ⟨0, Nat.zero_le _, rfl, 0, rfl⟩
  case round =>
    obtain ⟨k, hk, rfl, m, rfl⟩ := hrel
    by_cases hlt : k < xs.length
    · obtain ⟨g1, rfl, f1⟩ := H1.out.2 (by omega)
      obtain ⟨g2, rfl, f2⟩ := H2.out.2 (by omega)
      have d1 := f1 k _ (List.getElem?_eq_getElem hlt)
      have d2 := f2 k _ (List.getElem?_eq_getElem hlt)
      clear f1 f2
      generalize xs[k] = z at *
      generalize xs.length = n at *
      go_wp2_with fail
      go_quiet (fail)
      go_wp2
      go_roundw
      case rel => exact ⟨k + 1, by omega, by go_num, m + nq, rfl⟩
      case measure => simp [intOf]; omega
    · go_wp2
      go_ret
      exact ⟨rfl, m, rfl⟩

theorem live_all {s : Sl} (h : ∀ (i : Nat) (c : SC), s.cells[i]? = some c → c.taken = true ∧ c.gen = 0) : s.live = (List.range s.cells.length).map fun (i : Nat) => (i : Int) := by
  unfold Sl.live
  have key : ∀ j, j ≤ s.cells.length → (takenTo s j).map (fun p => hdl p.1) = (List.range j).map fun (i : Nat) => (i : Int) := by
    intro j
    induction j with
    | zero => intro _; simp [takenTo]
    | succ j ih =>
      intro hj
      have hc : s.cells[j]? = some s.cells[j] := List.getElem?_eq_getElem (by omega)
      obtain ⟨h1, h2⟩ := h j _ hc
      rw [takenTo_yes hc h1, List.map_append, ih (by omega), List.range_succ, List.map_append]
      simp [hdl, h2]
  exact key _ (Nat.le_refl _)
end Go.Proofs.Ytbmapjbjpgoibaa
