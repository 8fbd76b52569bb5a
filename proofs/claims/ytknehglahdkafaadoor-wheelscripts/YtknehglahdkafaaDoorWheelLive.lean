/- The document's own examples of a wheel. -/
import Derived.Test.YtknehglahdkafaaDoorWheelT
namespace Go.Proofs.YtknehglahdkafaaDoor
open Go.ChangeShapes Go.WideShapes Go.ChangeAt Go.RowKit
set_option linter.unusedVariables false

def L1 : Nat → List Nat := addR (fun _ => []) 3 5
def L2 : Nat → List Nat := addR L1 9 5
def L3 : Nat → List Nat := addR L2 9 2
def L4 : Nat → List Nat := dropR L3 5
def L5 : Nat → List Nat := dropR L4 5
def L6 : Nat → List Nat := upd L5 9 []
theorem mask_is {R : Nat → List Nat} {m n : Nat} (hm : m < 18446744073709551616) (hn : n < 18446744073709551616) (h : ∀ i, i < 64 → m.testBit i = !(R i).isEmpty) (h2 : ∀ i, i < 64 → n.testBit i = !(R i).isEmpty) : m = n :=
  bits_ext (k := 64) hm hn (fun j hj => by rw [h j hj, h2 j hj])
theorem has_news (w : World) (l : List Int) : IntsAt (w.alloc (.cells (l.map (Value.int .i64)).toArray 3)) (some ⟨w.heap.size, 0, none⟩) l.length l :=
  ⟨Nat.le_refl _, fun _ => ⟨w.heap.size, rfl, fun i z hz => by rw [(Has.made w 3 (l.map (Value.int .i64))).cell i, List.getElem?_map, hz]; rfl⟩⟩
set_option maxRecDepth 100000 in
set_option maxHeartbeats 4000000 in
theorem live_any (w : World) (ht : TabW w) : Calls Tryd.prog 9 #[] w fun e w' => e = .returned (.bool true) ∧ Below w.heap.size w w' := by
  have HT := Lib.hid ht
  clear ht
  go_enter Tryd.func9, Tryd.ntmps9
  go_wp2_with fail
  refine (New_T w).mono ?_
  rintro e w1 ⟨bP, bM, rfl, hW, hB, h1, h2⟩
  have HW := Lib.hid hW
  have HB := Lib.hid hB
  have HBK := Lib.hid (fun w' w'' (h : Below w.heap.size w w') (k : Kept (two bP bM) w' w'') => h.trans (k.below (B := w.heap.size) h.size (fun i hi hf => by rcases hf with rfl | rfl <;> omega)))
  have HGE := Lib.hid (And.intro h1 h2)
  clear hW hB h1 h2
  go_wp2_with fail
  refine (Add_T bP bM _ w1 HW.out 3 5 (by decide) (by decide) (by decide +kernel)).mono ?_
  rintro e w2 ⟨rfl, hW, hK⟩
  have HW1 := Lib.hid (show Wh w2 bP bM L1 from hW)
  have HB1 := Lib.hid (HBK.out _ _ HB.out hK)
  clear hW hK HW HB
  go_wp2_with fail
  refine (Add_T bP bM L1 w2 HW1.out 9 5 (by decide) (by decide) (by decide +kernel)).mono ?_
  rintro e w3 ⟨rfl, hW, hK⟩
  have HW2 := Lib.hid (show Wh w3 bP bM L2 from hW)
  have HB2 := Lib.hid (HBK.out _ _ HB1.out hK)
  clear hW hK HW1 HB1
  go_wp2_with fail
  refine (Add_T bP bM L2 w3 HW2.out 9 2 (by decide) (by decide) (by decide +kernel)).mono ?_
  rintro e w4 ⟨rfl, hW, hK⟩
  have HW3 := Lib.hid (show Wh w4 bP bM L3 from hW)
  have HB3 := Lib.hid (HBK.out _ _ HB2.out hK)
  clear hW hK HW2 HB2
  go_wp2_with fail
  refine (Add_no bP bM L3 w4 HW3.out 64 1 (by decide)).mono ?_
  rintro e w5 ⟨rfl, rfl⟩
  go_wp2_with fail
  refine (Where_yes bP bM L3 w4 HW3.out 9 5 (by decide) (by decide +kernel)).mono ?_
  rintro e w5 ⟨rfl, hb⟩
  have HW4 := Lib.hid (HW3.out.below hb)
  have HB4 := Lib.hid (HB3.out.trans (hb.mono HB3.out.size))
  clear hb HW3 HB3
  obtain ⟨m, hm1, hm2, hm3⟩ := Next_T bP bM L3 w5 HW4.out 4 (HT.out.below HB4.out) (by unfold I64; omega)
  obtain rfl : m = 512 := mask_is hm1 (by decide) hm2 (by decide +kernel)
  rw [show nextN [512] (4 : Int).toNat = (9, true) by decide +kernel] at hm3
  have HN := Lib.hid hm3
  clear hm1 hm2 hm3
  go_wp2_with fail
  refine HN.out.mono ?_
  rintro e w6 ⟨rfl, hb⟩
  have HW5 := Lib.hid (HW4.out.below hb)
  have HB5 := Lib.hid (HB4.out.trans (hb.mono HB4.out.size))
  clear hb HW4 HB4 HN
  obtain ⟨m, hm1, hm2, hm3⟩ := Next_T bP bM L3 w6 HW5.out 10 (HT.out.below HB5.out) (by unfold I64; omega)
  obtain rfl : m = 512 := mask_is hm1 (by decide) hm2 (by decide +kernel)
  rw [show nextN [512] (10 : Int).toNat = (0, false) by decide +kernel] at hm3
  have HN := Lib.hid hm3
  clear hm1 hm2 hm3
  go_wp2_with fail
  refine HN.out.mono ?_
  rintro e w7 ⟨rfl, hb⟩
  have HW6 := Lib.hid (HW5.out.below hb)
  have HB6 := Lib.hid (HB5.out.trans (hb.mono HB5.out.size))
  clear hb HW5 HB5 HN
  go_wp2_with fail
  refine (Row_T bP bM L3 w7 HW6.out 9 (by decide) (by decide +kernel)).mono ?_
  rintro e w8 ⟨v, rfl, hO, hb⟩
  rw [show L3 9 = [5, 2] by decide +kernel] at hO
  obtain ⟨A8, cap8, rfl, hI8⟩ := hO.ints
  have HO8 := Lib.hid hO
  have HI8 := Lib.hid hI8
  have HS8 := Lib.hid HW6.out.lt
  have HW7 := Lib.hid (HW6.out.below hb)
  have HB7 := Lib.hid (HB6.out.trans (hb.mono HB6.out.size))
  clear hb HW6 HB6 hO hI8
  obtain ⟨m, hm1, hm2, hm3⟩ := Mask_T bP bM L3 w8 HW7.out
  obtain rfl : m = 512 := mask_is hm1 (by decide) hm2 (by decide +kernel)
  have HN := Lib.hid hm3
  clear hm1 hm2 hm3
  go_wp2_with fail
  refine HN.out.mono ?_
  rintro e w9 ⟨rfl, rfl⟩
  clear HN
  go_wp2_with fail
  refine (Drop_T bP bM L3 w8 HW7.out 5 (by unfold I64; omega) (by decide +kernel) true ⟨fun _ => ⟨9, by decide, by decide +kernel⟩, fun _ => rfl⟩).mono ?_
  rintro e w9 ⟨rfl, hW, hK⟩
  have HW8 := Lib.hid (show Wh w9 bP bM L4 from hW)
  have HB8 := Lib.hid (HBK.out _ _ HB7.out hK)
  have HI9 := Lib.hid (HI8.out.kept hK (fun a e => by have := HO8.out.ge (b := a.block) (by rw [e]; rfl); have := HS8.out; rintro (h | h) <;> omega))
  have HO9 := Lib.hid (HO8.out.kept hK (fun b e => by have := HO8.out.ge e; have := HS8.out; rintro (h | h) <;> omega))
  clear hW hK HW7 HB7 HI8 HO8
  go_wp2_with fail
  refine (Drop_T bP bM L4 w9 HW8.out 5 (by unfold I64; omega) (by decide +kernel) false ⟨(fun h => by cases h), (fun ⟨i, hi, hx⟩ => absurd rfl (dropR_mem.1 hx).2)⟩).mono ?_
  rintro e w10 ⟨rfl, hW, hK⟩
  have HW9 := Lib.hid (show Wh w10 bP bM L5 from hW)
  have HB9 := Lib.hid (HBK.out _ _ HB8.out hK)
  have HI10 := Lib.hid (HI9.out.kept hK (fun a e => by have := HO9.out.ge (b := a.block) (by rw [e]; rfl); have := HS8.out; rintro (h | h) <;> omega))
  have HO10 := Lib.hid (HO9.out.kept hK (fun b e => by have := HO9.out.ge e; have := HS8.out; rintro (h | h) <;> omega))
  clear hW hK HW8 HB8 HI9 HO9
  go_wp2_with fail
  refine (Empty_T bP bM L5 w10 HW9.out 9 (by decide) (by decide +kernel)).mono ?_
  rintro e w11 ⟨v, rfl, hO, hW, hK⟩
  rw [show L5 9 = [2] by decide +kernel] at hO
  obtain ⟨A11, cap11, rfl, hI11⟩ := hO.ints
  have HW10 := Lib.hid (show Wh w11 bP bM L6 from hW)
  have HB10 := Lib.hid (HBK.out _ _ HB9.out hK)
  have HI11 := Lib.hid (HI10.out.kept hK (fun a e => by have := HO10.out.ge (b := a.block) (by rw [e]; rfl); have := HS8.out; rintro (h | h) <;> omega))
  have HJ11 := Lib.hid hI11
  clear hW hK HW9 HB9 HI10 HO10 hI11 hO
  have HA1 := Lib.hid (has_news w11 [5, 2])
  have HI12 := Lib.hid (Ints_yes A8 (some ⟨w11.heap.size, 0, none⟩) cap8 2 [5, 2] (w11.alloc (.cells #[.int .i64 5, .int .i64 2] 3)) (HI11.out.below ((Below.refl _ _).alloc (Nat.le_refl _) _)) HA1.out (by decide))
  go_wp2_with fail
  refine HI12.out.mono ?_
  rintro e w12 ⟨rfl, m12, rfl⟩
  have hbb : Below w11.heap.size w11 ((w11.alloc (.cells #[.int .i64 5, .int .i64 2] 3)).drewN m12) := ((Below.refl _ w11).alloc (Nat.le_refl _) _).trans (by exact ⟨rfl, rfl, rfl, Nat.le_refl _, fun _ _ => rfl⟩)
  obtain ⟨w12, hw12⟩ : ∃ w12, (w11.alloc (.cells #[.int .i64 5, .int .i64 2] 3)).drewN m12 = w12 := ⟨_, rfl⟩
  rw [hw12] at hbb ⊢
  have HW11 := Lib.hid (HW10.out.below hbb)
  have HB11 := Lib.hid (HB10.out.trans (hbb.mono HB10.out.size))
  have HJ12 := Lib.hid (HJ11.out.below hbb)
  clear hbb hw12 HI12 HA1 HI11 HJ11 HW10 HB10
  have HA1 := Lib.hid (has_news w12 [2])
  have HI12 := Lib.hid (Ints_yes A11 (some ⟨w12.heap.size, 0, none⟩) cap11 1 [2] (w12.alloc (.cells #[.int .i64 2] 3)) (HJ12.out.below ((Below.refl _ _).alloc (Nat.le_refl _) _)) HA1.out (by decide))
  go_wp2_with fail
  refine HI12.out.mono ?_
  rintro e w13 ⟨rfl, m13, rfl⟩
  have hbb : Below w12.heap.size w12 ((w12.alloc (.cells #[.int .i64 2] 3)).drewN m13) := ((Below.refl _ w12).alloc (Nat.le_refl _) _).trans (by exact ⟨rfl, rfl, rfl, Nat.le_refl _, fun _ _ => rfl⟩)
  obtain ⟨w13, hw13⟩ : ∃ w13, (w12.alloc (.cells #[.int .i64 2] 3)).drewN m13 = w13 := ⟨_, rfl⟩
  rw [hw13] at hbb ⊢
  have HW12 := Lib.hid (HW11.out.below hbb)
  have HB12 := Lib.hid (HB11.out.trans (hbb.mono HB11.out.size))
  clear hbb hw13 HI12 HA1 HJ12 HW11 HB11
  have HLN := Lib.hid (Len_T bP bM L6 w13 HW12.out)
  rw [show tot L6 64 = 0 by decide +kernel] at HLN
  go_wp2_with fail
  refine HLN.out.mono ?_
  rintro e w14 ⟨rfl, rfl⟩
  obtain ⟨m, hm1, hm2, hm3⟩ := Mask_T bP bM L6 w13 HW12.out
  obtain rfl : m = 0 := mask_is hm1 (by decide) hm2 (by decide +kernel)
  have HN := Lib.hid hm3
  clear hm1 hm2 hm3
  go_wp2_with fail
  refine HN.out.mono ?_
  rintro e w9 ⟨rfl, rfl⟩
  go_wp2
  go_ret
  exact ⟨rfl, HB12.out⟩
end Go.Proofs.YtknehglahdkafaaDoor
