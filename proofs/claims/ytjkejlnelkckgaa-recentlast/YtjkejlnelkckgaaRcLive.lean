/- The document's own examples of a Recent. -/
import Derived.Test.YtjkejlnelkckgaaRcV
namespace Go.Proofs.Ytjkejlnelkckgaa
open Go.ChangeShapes Go.WideShapes Go.ChangeAt Go.RowKit
set_option linter.unusedVariables false

theorem has_news (w : World) (l : List Int) : IntsAt (w.alloc (.cells (l.map (Value.int .i64)).toArray 3)) (some ⟨w.heap.size, 0, none⟩) l.length l :=
  ⟨Nat.le_refl _, fun _ => ⟨w.heap.size, rfl, fun i z hz => by rw [(Has.made w 3 (l.map (Value.int .i64))).cell i, List.getElem?_map, hz]; rfl⟩⟩
set_option maxRecDepth 100000 in
set_option maxHeartbeats 4000000 in
theorem live_any (w : World) : Calls Try.prog 9 #[] w fun e w' => e = .returned (.bool true) ∧ Below w.heap.size w w' := by
  go_enter Try.func9, Try.ntmps9
  go_wp2_with fail
  refine (New_T w).mono ?_
  rintro e w1 ⟨bP, bM, rfl, hW, hB, h1, h2⟩
  have HW := Lib.hid hW
  have HB := Lib.hid hB
  have HBK := Lib.hid (fun w' w'' (h : Below w.heap.size w w') (k : Kept (two bP bM) w' w'') => h.trans (k.below (B := w.heap.size) h.size (fun i hi hf => by rcases hf with rfl | rfl <;> omega)))
  clear hW hB h1 h2
  go_wp2_with fail
  refine (Touch_T bP bM _ w1 HW.out 1 (by decide) (by decide)).mono ?_
  rintro e w2 ⟨rfl, hW, hK⟩
  have HW1 := Lib.hid (show RC w2 bP bM [1] from hW)
  have HB1 := Lib.hid (HBK.out _ _ HB.out hK)
  clear hW hK HW HB
  go_wp2_with fail
  refine (Touch_T bP bM _ w2 HW1.out 2 (by decide) (by decide)).mono ?_
  rintro e w3 ⟨rfl, hW, hK⟩
  have HW2 := Lib.hid (show RC w3 bP bM [1, 2] from hW)
  have HB2 := Lib.hid (HBK.out _ _ HB1.out hK)
  clear hW hK HW1 HB1
  go_wp2_with fail
  refine (Touch_T bP bM _ w3 HW2.out 1 (by decide) (by decide)).mono ?_
  rintro e w4 ⟨rfl, hW, hK⟩
  have HW3 := Lib.hid (show RC w4 bP bM [2, 1] from hW)
  have HB3 := Lib.hid (HBK.out _ _ HB2.out hK)
  clear hW hK HW2 HB2
  go_wp2_with fail
  refine (Touch_no bP bM _ w4 HW3.out (-1) (by decide)).mono ?_
  rintro e w5 ⟨rfl, rfl⟩
  go_wp2_with fail
  refine (Oldest_T bP bM _ w4 HW3.out).mono ?_
  rintro e w5 ⟨rfl, hb⟩
  have HW4 := Lib.hid (HW3.out.below hb)
  have HB4 := Lib.hid (HB3.out.trans (hb.mono HB3.out.size))
  clear hb HW3 HB3
  go_wp2_with fail
  refine (Newer_at bP bM _ w5 HW4.out 0 2 rfl).mono ?_
  rintro e w6 ⟨rfl, hb⟩
  have HW5 := Lib.hid (HW4.out.below hb)
  have HB5 := Lib.hid (HB4.out.trans (hb.mono HB4.out.size))
  clear hb HW4 HB4
  go_wp2_with fail
  refine (Newer_at bP bM _ w6 HW5.out 1 1 rfl).mono ?_
  rintro e w7 ⟨rfl, hb⟩
  have HW6 := Lib.hid (HW5.out.below hb)
  have HB6 := Lib.hid (HB5.out.trans (hb.mono HB5.out.size))
  clear hb HW5 HB5
  go_wp2_with fail
  refine (Order_T bP bM _ w7 HW6.out (by decide)).mono ?_
  rintro e w8 ⟨v, rfl, hO, hb⟩
  obtain ⟨A8, cap8, rfl, hI8⟩ := hO.ints
  have HO8 := Lib.hid hO
  have HI8 := Lib.hid hI8
  have HS8 := Lib.hid HW6.out.lt
  have HW7 := Lib.hid (HW6.out.below hb)
  have HB7 := Lib.hid (HB6.out.trans (hb.mono HB6.out.size))
  clear hb HW6 HB6 hO hI8
  go_wp2_with fail
  refine (Drop_in bP bM _ w8 HW7.out 2 (by decide) (by decide)).mono ?_
  rintro e w9 ⟨rfl, hW, hK⟩
  have HW8 := Lib.hid (show RC w9 bP bM [1] from hW)
  have HB8 := Lib.hid (HBK.out _ _ HB7.out hK)
  have HI9 := Lib.hid (HI8.out.kept hK (fun a e => by have := HO8.out.ge (b := a.block) (by rw [e]; rfl); have := HS8.out; rintro (h | h) <;> omega))
  clear hW hK HW7 HB7 HI8 HO8
  go_wp2_with fail
  refine (Drop_neg bP bM _ w9 HW8.out 2 (by unfold I64; omega) (fun x hx e => absurd (List.mem_singleton.1 hx) (by omega))).mono ?_
  rintro e w10 ⟨rfl, hb⟩
  have HW9 := Lib.hid (HW8.out.below hb)
  have HB9 := Lib.hid (HB8.out.trans (hb.mono HB8.out.size))
  have HI10 := Lib.hid (HI9.out.below hb)
  clear hb HW8 HB8 HI9
  have HA1 := Lib.hid (has_news w10 [2, 1])
  have HI12 := Lib.hid (Ints_yes A8 (some ⟨w10.heap.size, 0, none⟩) cap8 2 [2, 1] (w10.alloc (.cells #[.int .i64 2, .int .i64 1] 3)) (HI10.out.below (box_below _)) HA1.out (by decide))
  go_wp2_with fail
  refine HI12.out.mono ?_
  rintro e w12 ⟨rfl, m12, rfl⟩
  have hbb : Below w10.heap.size w10 ((w10.alloc (.cells #[.int .i64 2, .int .i64 1] 3)).drewN m12) := (box_below _).trans (by exact ⟨rfl, rfl, rfl, Nat.le_refl _, fun _ _ => rfl⟩)
  obtain ⟨w12, hw12⟩ : ∃ w12, (w10.alloc (.cells #[.int .i64 2, .int .i64 1] 3)).drewN m12 = w12 := ⟨_, rfl⟩
  rw [hw12] at hbb ⊢
  have HW10 := Lib.hid (HW9.out.below hbb)
  have HB10 := Lib.hid (HB9.out.trans (hbb.mono HB9.out.size))
  clear hbb hw12 HI12 HA1 HI10 HW9 HB9
  go_wp2_with fail
  refine (Len_T bP bM _ w12 HW10.out (by decide)).mono ?_
  rintro e w13 ⟨rfl, rfl⟩
  go_wp2
  go_ret
  exact ⟨rfl, HB10.out⟩
end Go.Proofs.Ytjkejlnelkckgaa
