/- The contract of the wheel's Empty. -/
import Derived.Test.YtknehglahdkafaaDoorWheel7
namespace Go.Proofs.YtknehglahdkafaaDoor
open Go.ChangeShapes Go.WideShapes Go.ChangeAt Go.RowKit
set_option linter.unusedVariables false

def WS.drops (s : WS) (l : List Nat) : WS := l.foldl (fun s (x : Nat) => s.drop (x : Int)) s
/-- Ids are told, in new memory; the wheel is s' then. -/
def EmptyTold (bP bM : Nat) (s' : WS) (l : List Nat) (w : World) (e : Ending) (w' : World) : Prop :=
  ∃ v, e = .returned v ∧ Own1 w.heap.size 3 w' v (idsV l) ∧ IsWh w' bP bM s' ∧ Kept (two bP bM) w w'
theorem Own1.cellAt {B : Nat} {e : TypeId} {w : World} {v : Value} {xs : List Value} (h : Own1 B e w v xs) {j : Nat} {u : Value} (hu : xs[j]? = some u) : ∃ g cap, v = .slice (some ⟨g, 0, none⟩) xs.length cap ∧ B ≤ g ∧ xs.length ≤ cap ∧ w.cell? ⟨g, j, none⟩ = some u := by
  have h0 : xs ≠ [] := fun e => by rw [e] at hu; cases hu
  obtain ⟨g, cap, rest, rfl, hb, _, hh, hl⟩ := h.has h0
  refine ⟨g, cap, rfl, hb, by omega, ?_⟩
  rw [hh.cell j, List.getElem?_append_left (List.getElem?_eq_some_iff.1 hu).1, hu]
set_option maxRecDepth 100000 in
theorem Empty_any (bP bM : Nat) (k : Int) (l : List Nat) (s : WS) (w : World) (h : IsWh w bP bM s) (hr : Calls Tryd.prog 19 #[.pointer (some ⟨bP, 0, none⟩), .int .i64 k] w (IdsTold l w)) (hl : l.length ≤ 900) (hk : ∀ x ∈ l, x ≤ 1048575)
    (ho : ∀ j, j ≤ l.length → (s.drops (l.take j)).Ok ∧ (s.drops (l.take j)).n ≤ 100000) :
    Calls Tryd.prog 17 #[.pointer (some ⟨bP, 0, none⟩), .int .i64 k] w (EmptyTold bP bM (s.drops l) l w) := by
  have HR := Lib.hid hr
  have HW := Lib.hid h
  have HOK := Lib.hid ho
  have HKX := Lib.hid hk
  have hbP := h.hd.lt
  have hbM := h.mp.lt
  clear h hr ho hk
  go_enter Tryd.func17, Tryd.ntmps17
  go_wp2_with fail
  refine HR.out.mono ?_
  rintro e w1 ⟨v, rfl, hO, hb⟩
  obtain ⟨A, cap, rfl⟩ := hO.sl
  rw [idsV_len] at hO ⊢
  have HO := Lib.hid hO
  have HB := Lib.hid hb
  clear hO hb HR
  go_wp2_with fail
  go_loopw [13] (fun i wr => ∃ j : Nat, j ≤ l.length ∧ i = .int .i64 (j : Int) ∧ Own1 w.heap.size 3 wr (.slice A l.length cap) (idsV l) ∧ IsWh wr bP bM (s.drops (l.take j)) ∧ Kept (two bP bM) w wr) (fun i _ => l.length - (intOf i).toNat)
  case atStart => exact ⟨0, Nat.zero_le _, rfl, HO.out, by rw [List.take_zero]; exact HW.out.below HB.out, Kept.of_below HB.out⟩
  case round =>
    obtain ⟨j, hj, rfl, hO, hI, hK⟩ := hrel
    by_cases hlt : j < l.length
    · obtain ⟨x, hx⟩ : ∃ x, l[j]? = some x := ⟨_, List.getElem?_eq_getElem hlt⟩
      obtain ⟨g, cap', e1, hg, hcap, hcell⟩ := hO.cellAt (j := j) (u := .int .i64 (x : Int)) (by unfold idsV; rw [List.getElem?_map, hx]; rfl)
      rw [idsV_len] at e1 hcap
      injection e1 with e1 e2 e3
      subst e1
      subst e3
      have HXK := Lib.hid (show I64 (x : Int) by have := HKX.out x (List.mem_of_getElem? hx); unfold I64; omega)
      have HD := Lib.hid (Drop_any bP bM x (s.drops (l.take j)) wr hI HXK.out (HOK.out j hj).1 (HOK.out j hj).2)
      have HST := Lib.hid (show (s.drops (l.take j)).drop x = s.drops (l.take (j + 1)) by unfold WS.drops; rw [List.take_add_one, hx, Option.toList_some, List.foldl_append]; rfl)
      have HO1 := Lib.hid hO
      have HK1 := Lib.hid hK
      have HG := Lib.hid hg
      clear hO hI hK hx e2 hg HO HB
      go_wp2_with fail
      refine HD.out.mono ?_
      rintro e w2 ⟨rfl, h2, k2⟩
      have H2 := Lib.hid h2
      have K2 := Lib.hid k2
      rw [HST.out] at H2
      clear h2 k2 HD
      go_wp2
      go_roundw
      case rel => exact ⟨j + 1, by omega, by go_num, HO1.out.kept K2.out (fun b hb hor => by have := HO1.out.ge hb; rcases hor with rfl | rfl <;> omega), H2.out, two_trans HK1.out K2.out⟩
      case measure => simp [intOf]; omega
    · have hjl : j = l.length := by omega
      have R := Lib.hid (show EmptyTold bP bM (s.drops l) l w (.returned (.slice A l.length cap)) wr from ⟨_, rfl, hO, by rw [hjl, List.take_length] at hI; exact hI, hK⟩)
      clear hO hI hK
      go_wp2
      go_ret
      exact R.out
theorem Empty_nil (k : Int) (w : World) : Calls Tryd.prog 17 #[.pointer none, .int .i64 k] w fun e w' => e = .returned (.slice none 0 0) ∧ Below w.heap.size w w' := by
  go_enter Tryd.func17, Tryd.ntmps17
  go_wp2_with fail
  refine (Row_nil k w).mono ?_
  rintro e w1 ⟨rfl, hb⟩
  have HB := Lib.hid hb
  clear hb
  go_wp2_with fail
  refine wp_loop_rounds 1 ?_
  rw [rounds_succ]
  go_wp2
  go_ret
  exact ⟨rfl, HB.out⟩
end Go.Proofs.YtknehglahdkafaaDoor
