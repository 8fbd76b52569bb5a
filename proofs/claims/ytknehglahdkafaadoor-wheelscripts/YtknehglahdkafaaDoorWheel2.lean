/- The contracts of the wheel's mark and join. -/
import Derived.Test.YtknehglahdkafaaDoorWheel1
namespace Go.Proofs.YtknehglahdkafaaDoor
open Go.ChangeShapes Go.WideShapes Go.ChangeAt Go.RowKit
set_option linter.unusedVariables false

/-- A mask with one bit set anew. -/
def mset (m i b : Nat) : Nat := (setW [m] i 1 b).getD 0 0
theorem setW_one (m i b : Nat) : setW [m] i 1 b = [mset m i b] := by
  have hl := setW_len [m] i 1 b
  match h : setW [m] i 1 b, hl with
  | [x], _ => unfold mset; rw [h]; rfl
theorem mset_lt (m i b : Nat) : mset m i b < 18446744073709551616 := by
  have := setW_all [m] i 1 b
  rw [setW_one] at this
  exact this _ (by simp)
theorem mset_bit (m i b j : Nat) (hj : j < 64) : (mset m i b).testBit j = if j = i then b.testBit 0 else m.testBit j := by
  have h := setW_bit [m] i 1 b j (by simpa using hj)
  rw [setW_one, bit_one _ _ hj, bit_one _ _ hj] at h
  rw [h]
  by_cases e : j = i
  · subst e
    rw [if_pos ⟨Nat.le_refl _, by omega⟩, if_pos rfl, Nat.sub_self]
  · rw [if_neg (by omega), if_neg e]
def bitOf (x : Int) : Nat := if x = -1 then 0 else 1
def WS.mark (s : WS) (i : Nat) : WS := s.setMask (mset s.mask i (bitOf (s.en.getD i (0, 0)).1))
/-- The wheel is s' now; nothing but its blocks, and new ones, has changed. -/
def WhTells (bP bM : Nat) (s' : WS) (v : Value) (w : World) (e : Ending) (w' : World) : Prop :=
  e = .returned v ∧ IsWh w' bP bM s' ∧ Kept (two bP bM) w w'
set_option maxRecDepth 100000 in
theorem mark_any (bP bM i : Nat) (s : WS) (w : World) (h : IsWh w bP bM s) (hi : i < 64) :
    Calls Tryd.prog 32 #[.pointer (some ⟨bP, 0, none⟩), .int .i64 (i : Int)] w (WhTells bP bM (s.mark i) (.tuple #[]) w) := by
  obtain ⟨p, hp⟩ : ∃ p, s.en[i]? = some p := ⟨_, List.getElem?_eq_getElem (by rw [h.le]; exact hi)⟩
  have e0 := h.e0 hp
  have p0 := h.p0
  have l0 := h.hd.loose 0
  have hb := h.hd.lt
  have P0 := Lib.hid p0
  have L0 := Lib.hid l0
  have HS := Lib.hid (fun b => Set_yes (some ⟨w.heap.size, 0, none⟩) 1 1 [s.mask] i 1 (bitOf b) (w.alloc (.cells #[.int .u64 (s.mask : Int)] 34)) (by decide) (words_one w s.mask h.ml) (by decide) (by omega) (by unfold bitOf; split <;> decide))
  have HW := Lib.hid h
  have HM := Lib.hid (show s.mark i = s.setMask (mset s.mask i (bitOf p.1)) by unfold WS.mark; rw [List.getD_eq_getElem?_getD, hp]; rfl)
  have R := Lib.hid (fun (w1 : World) (hb : Below w.heap.size w w1) => show WhTells bP bM (s.mark i) (.tuple #[]) w (.returned (.tuple #[])) (w1.setCell ⟨bP, 0, none⟩ (.int .u64 ((mset s.mask i (bitOf p.1) : Nat) : Int))) from by
    rw [HM.out]
    exact ⟨rfl, (HW.out.below hb).setM (mset_lt _ _ _), (Kept.of_below hb).setCell (p := ⟨bP, 0, none⟩) (.inl (.inl rfl)) _⟩)
  clear h hp HW HM
  generalize s.mark i = s' at *
  obtain ⟨x, y⟩ := p
  simp only at e0 R
  by_cases hx : x = -1
  · subst hx
    have HSS := Lib.hid (HS.out (-1))
    rw [show bitOf (-1) = 0 from rfl, setW_one] at HSS
    rw [show bitOf (-1) = 0 from rfl] at R
    generalize mset s.mask i 0 = m' at *
    generalize s.mask = m at *
    clear HS
    go_enter Tryd.func32, Tryd.ntmps32
    go_wp2_with fail
    refine HSS.out.mono ?_
    rintro e w1 ⟨A, cap, rfl, hf, hb1⟩
    obtain ⟨hcap, _, _, hor⟩ := hf
    obtain ⟨g, rfl, hg, ho⟩ : ∃ g, A = some ⟨g, 0, none⟩ ∧ (w.alloc (.cells #[.int .u64 (m : Int)] 34)).heap.size ≤ g ∧ OwnW w1 g 1 [m'] := by
      rcases hor with ⟨_, h0⟩ | h
      · exact absurd h0 (by decide)
      · exact h
    have hB : Below w.heap.size w w1 := ((Below.refl _ w).alloc (Nat.le_refl _) (.cells #[.int .u64 (m : Int)] 34)).trans (hb1.mono (by simp))
    have RR := Lib.hid (R.out w1 hB)
    have c0 := ho.cell (i := 0) (by decide)
    have q0 := (hB.cell (p := ⟨bP, 0, none⟩) hb).trans P0.out
    have q1 := (hB.frozen (p := ⟨bP, 0, none⟩) hb).trans L0.out
    simp at c0
    clear hb1 ho hg hor hB HSS R
    go_wp2
    go_returns
    exact RR.out
  · have HSS := Lib.hid (HS.out x)
    have hb1' : bitOf x = 1 := by unfold bitOf; rw [if_neg hx]
    rw [hb1', setW_one] at HSS
    rw [hb1'] at R
    have t1 : (x != -1) = true := by simp [hx]
    clear hb1' hx
    generalize mset s.mask i 1 = m' at *
    generalize s.mask = m at *
    clear HS
    go_enter Tryd.func32, Tryd.ntmps32
    go_wp2_with fail
    refine HSS.out.mono ?_
    rintro e w1 ⟨A, cap, rfl, hf, hb1⟩
    obtain ⟨hcap, _, _, hor⟩ := hf
    obtain ⟨g, rfl, hg, ho⟩ : ∃ g, A = some ⟨g, 0, none⟩ ∧ (w.alloc (.cells #[.int .u64 (m : Int)] 34)).heap.size ≤ g ∧ OwnW w1 g 1 [m'] := by
      rcases hor with ⟨_, h0⟩ | h
      · exact absurd h0 (by decide)
      · exact h
    have hB : Below w.heap.size w w1 := ((Below.refl _ w).alloc (Nat.le_refl _) (.cells #[.int .u64 (m : Int)] 34)).trans (hb1.mono (by simp))
    have RR := Lib.hid (R.out w1 hB)
    have c0 := ho.cell (i := 0) (by decide)
    have q0 := (hB.cell (p := ⟨bP, 0, none⟩) hb).trans P0.out
    have q1 := (hB.frozen (p := ⟨bP, 0, none⟩) hb).trans L0.out
    simp at c0
    clear hb1 ho hg hor hB HSS R
    go_wp2
    go_returns
    exact RR.out
end Go.Proofs.YtknehglahdkafaaDoor
