/- Rows of hits of a call's own: slices.Clone, and exact's added. -/
import Derived.Test.YtgdcgilhaedbmaaEx3
import Derived.Test.YtgdcgilhaedbmaaMem2
import Derived.RegionTactic
import Derived.BigRegion
import Derived.ChangeAlike
import Derived.OwnWalk
import Derived.Lib.SliceRun
import Derived.WalkKit
import Derived.ProofKit
-- prune
namespace Go.Proofs.Ytgdcgilhaedbmaa
open Go.ChangeShapes Go.WideShapes Go.ChangeAt Go.RowKit
set_option linter.unusedVariables false

/-- Hits as cells. -/
def hv (f g : Nat → Int) : Nat → List Value
  | 0 => []
  | n + 1 => hv f g n ++ [.int .i64 (f n), .int .i64 (g n)]
theorem hv_len (f g : Nat → Int) (n : Nat) : (hv f g n).length = n * 2 := by
  induction n with
  | zero => rfl
  | succ n ih => simp only [hv, List.length_append, ih, List.length_cons, List.length_nil]; omega
theorem hv_get (f g : Nat → Int) (n i : Nat) (hi : i < n) : (hv f g n)[i * 2]? = some (.int .i64 (f i)) ∧ (hv f g n)[i * 2 + 1]? = some (.int .i64 (g i)) := by
  induction n with
  | zero => omega
  | succ n ih =>
    simp only [hv]
    by_cases e : i = n
    · subst e
      rw [List.getElem?_append_right (by rw [hv_len]; exact Nat.le_refl _), List.getElem?_append_right (by rw [hv_len]; omega), hv_len, Nat.sub_self, show i * 2 + 1 - i * 2 = 1 by omega]
      exact ⟨rfl, rfl⟩
    · have h := ih (by omega)
      rw [List.getElem?_append_left (by rw [hv_len]; omega), List.getElem?_append_left (by rw [hv_len]; omega)]
      exact h
theorem hv_any (f g : Nat → Int) (n j : Nat) (u : Value) (h : (hv f g n)[j]? = some u) : ∃ i, i < n ∧ ((j = i * 2 ∧ u = .int .i64 (f i)) ∨ (j = i * 2 + 1 ∧ u = .int .i64 (g i))) := by
  have hj : j < n * 2 := by have := (List.getElem?_eq_some_iff.1 h).1; rw [hv_len] at this; exact this
  have hi : j / 2 < n := by omega
  obtain ⟨h1, h2⟩ := hv_get f g n (j / 2) hi
  rcases Nat.mod_two_eq_zero_or_one j with e | e
  · refine ⟨j / 2, hi, .inl ⟨by omega, ?_⟩⟩
    rw [show j / 2 * 2 = j by omega, h] at h1
    exact Option.some.inj h1
  · refine ⟨j / 2, hi, .inr ⟨by omega, ?_⟩⟩
    rw [show j / 2 * 2 + 1 = j by omega, h] at h2
    exact Option.some.inj h2
theorem hv_one (f g : Nat → Int) (n : Nat) : ∀ u ∈ hv f g n, u.oneCell' = true := by
  intro u hu
  obtain ⟨j, hj, e⟩ := List.mem_iff_getElem.1 hu
  obtain ⟨i, _, h | h⟩ := hv_any f g n j u (by rw [List.getElem?_eq_getElem hj, e])
  · rw [h.2]; rfl
  · rw [h.2]; rfl
theorem hv_congr {f g f' g' : Nat → Int} {n : Nat} (e : ∀ i, i < n → f i = f' i ∧ g i = g' i) : hv f g n = hv f' g' n := by
  induction n with
  | zero => rfl
  | succ n ih => simp only [hv]; rw [ih (fun i hi => e i (by omega)), (e n (by omega)).1, (e n (by omega)).2]
/-- A row of hits of a call's own. -/
def OwnH (B : Nat) (w : World) (v : Value) (n : Nat) (f g : Nat → Int) : Prop := w.ownsRow B 50 2 v n (hv f g n)
theorem OwnH.at_ {B : Nat} {w : World} {v : Value} {n : Nat} {f g : Nat → Int} (h : OwnH B w v n f g) : ∃ A cap, v = .slice A n cap ∧ n ≤ cap ∧ cap ≤ maxLen ∧ HitsAt w A n f g := by
  obtain ⟨h1, ⟨h2, h3⟩ | ⟨gb, cap, cur, h2, h3, h4, h5, h6, h7, h8⟩⟩ := h
  · subst h3; exact ⟨none, 0, h2, Nat.le_refl _, Nat.zero_le _, HitsAt.nil _ _ _ _⟩
  · refine ⟨_, cap, h2, h5, h6, fun h0 => ⟨gb, 0, rfl, ?_, fun i hi => ?_⟩⟩
    · rcases Nat.lt_or_ge gb w.heap.size with q | q
      · exact q
      · rw [Array.getElem?_eq_none q] at h4; cases h4
    · obtain ⟨e1, e2⟩ := hv_get f g n i hi
      have hc : ∀ j, j < n * 2 → w.cell? ⟨gb, j, none⟩ = (hv f g n)[j]? := fun j hj => by
        rw [cell_of_row w gb j cur 50 (0, 0) h4, ← h8, List.getElem?_take, if_pos hj, Array.getElem?_toList]
      rw [Nat.zero_add, hc _ (by omega), hc _ (by omega)]
      exact ⟨e1, e2⟩
theorem infoH : (Try.prog.info? 50).map (fun i => (i.zero, i.size, i.bytes)) = some (some (.agg #[.int .i64 0, .int .i64 0]), 2, 16) := by kernel_rfl
/-- What Clone tells. -/
def ClonedH (n : Nat) (f g : Nat → Int) (w : World) (e : Ending) (w' : World) : Prop := ∃ v, e = .returned v ∧ OwnH w.heap.size w' v n f g ∧ Below w.heap.size w w'
theorem Clone_any (A : Option Addr) (n c : Nat) (f g : Nat → Int) (w : World) (hl : n ≤ 64) (hw : HitsAt w A n f g) :
    Calls Try.prog 23 #[.slice A n c] w (ClonedH n f g w) := by
  cases A with
  | none =>
    have h0 : n = 0 := by
      rcases Nat.eq_zero_or_pos n with h | h
      · exact h
      · obtain ⟨b, off, h', _⟩ := hw h; cases h'
    subst h0
    have hq : ∀ W, (binOp .eql 25 (.slice none 0 c) (.slice none 0 0)).run Try.prog W = .ok (.bool true) W := fun W => Lib.run_eql_slice_nil W _ _ none 0 c 0 0 Try.underlying25
    go_enter Try.func23, Try.ntmps23
    go_wp2
    go_ret
    exact ⟨_, rfl, ⟨rfl, .inl ⟨rfl, rfl⟩⟩, Below.refl _ _⟩
  | some ad =>
    obtain ⟨i0, hi, hz0, hz1, hz2⟩ := info_parts infoH
    have HI := Lib.hid (And.intro hi (And.intro hz0 (And.intro hz1 hz2)))
    have hown : (w.alloc (Obj.cells #[] 50)).ownsRow w.heap.size 50 2 (.slice (some ⟨w.heap.size, 0, none⟩) 0 0) 0 [] := World.ownsRow_lit w #[] 0 (Nat.le_refl _) (by unfold maxLen; omega) rfl
    have HO := Lib.hid hown
    have HW := Lib.hid (hw.below ((Below.refl _ _).alloc (Nat.le_refl _) (Obj.cells #[] 50)))
    clear hi hz0 hz1 hz2 hown hw
    have hq : ∀ W, (binOp .eql 25 (.slice (some ad) n c) (.slice none 0 0)).run Try.prog W = .ok (.bool false) W := fun W => Lib.run_eql_slice_nil W _ _ (some ad) n c 0 0 Try.underlying25
    go_enter Try.func23, Try.ntmps23
    go_wp2_with (first | (at_builtin; refine wpList_append_own _ rfl _ _ 25 rfl w.heap.size 50 i0 (.agg #[.int .i64 0, .int .i64 0]) 2 16 Try.underlying25 HI.out.1 HI.out.2.1 HI.out.2.2.1 HI.out.2.2.2 rfl (by decide) _ 0 [] rfl HO.out ad n c (hv f g n) rfl ?c1 ?c2 ?c3 ?c4 ?c5 ?c6 ?_))
    case c1 => exact hv_len f g n
    case c2 =>
      intro j u hj
      obtain ⟨i, hi, h⟩ := hv_any f g n j u hj
      obtain ⟨b, off, e, hb, hc⟩ := HW.out (by omega)
      injection e with e
      subst e
      have e2 : (⟨b, off, none⟩ : Addr).add j = ⟨b, off + j, none⟩ := by unfold Addr.add; split <;> simp_all
      rw [e2]
      rcases h with ⟨rfl, rfl⟩ | ⟨rfl, rfl⟩
      · exact (hc i hi).1
      · exact (hc i hi).2
    case c3 => exact hv_one f g n
    case c4 => unfold maxLen; omega
    case c5 => omega
    case c6 => simp
    intro v' w1 hown' hgrow hnil
    have hbel : Below w.heap.size w w1 := ((Below.refl _ _).alloc (Nat.le_refl _) (Obj.cells #[] 50)).grown hgrow (by simp) (fun k hk => by simp [Value.ownBlock] at hk; omega)
    have R := Lib.hid (show ClonedH n f g w (.returned v') w1 from ⟨v', rfl, by unfold OwnH; simpa using hown', hbel⟩)
    clear hown' hgrow hnil hbel
    go_wp2
    go_ret
    exact R.out
end Go.Proofs.Ytgdcgilhaedbmaa
