/- The document's own examples of a table. -/
import Derived.Test.YtgcdminjpdbchaaDoorRb9
namespace Go.Proofs.YtgcdminjpdbchaaDoor
open Go.ChangeShapes Go.WideShapes Go.ChangeAt Go.RowKit
set_option linter.unusedVariables false

def mL0 : ByteArray → Option Int := fun _ => none
def mL1 : ByteArray → Option Int := upd mL0 ⟨#[97]⟩ (some 1)
def mL2 : ByteArray → Option Int := upd mL1 ⟨#[98]⟩ (some 2)
def mL3 : ByteArray → Option Int := upd mL2 ⟨#[97]⟩ (some 3)
def mL4 : ByteArray → Option Int := upd mL3 ⟨#[98]⟩ none
def mL5 : ByteArray → Option Int := upd mL4 ⟨#[98]⟩ none
theorem mL_facts : mL0 ⟨#[97]⟩ = none ∧ mL1 ⟨#[98]⟩ = none ∧ (mL2 ⟨#[97]⟩).isSome = true ∧ mL3 ⟨#[97]⟩ = some 3 ∧ mL3 ⟨#[122]⟩ = none ∧ (mL3 ⟨#[98]⟩).isSome = true ∧ (mL4 ⟨#[98]⟩).isSome = false ∧ (mL5 ⟨#[97]⟩).isSome = true := by decide +kernel
set_option maxRecDepth 100000 in
set_option maxHeartbeats 4000000 in
theorem live_any (w : World) (ht : TabW w) : Calls Tryd.prog 11 #[] w fun e w' => e = .returned (.bool true) ∧ Below w.heap.size w w' := by
  obtain ⟨f0, f1, f2, f3, f4, f5, f6, f7⟩ := mL_facts
  have F0 := Lib.hid f0
  have F1 := Lib.hid f1
  have F2 := Lib.hid f2
  have F3 := Lib.hid f3
  have F4 := Lib.hid f4
  have F5 := Lib.hid f5
  have F6 := Lib.hid f6
  have F7 := Lib.hid f7
  have HT := Lib.hid (fun w' (h : Below w.heap.size w w') => ht.below h)
  clear f0 f1 f2 f3 f4 f5 f6 f7
  have HT0 := Lib.hid ht
  clear ht
  go_enter Tryd.func11, Tryd.ntmps11
  go_wp2_with fail
  refine (New_T 7 2 w (by unfold U; decide) (by decide) (by decide)).mono ?_
  rintro e w1 ⟨bP, bS, rfl, hW, hB, h1, h2⟩
  have HW0 := Lib.hid (show TT w1 bP bS 7 2 mL0 0 from hW)
  have HB0 := Lib.hid hB
  have HBK := Lib.hid (fun w' w'' (h : Below w.heap.size w w') (k : Kept (fun b => b = bS) w' w'') => h.trans (k.below (B := w.heap.size) h.size (fun i hi hf => by omega)))
  clear hW hB h1 h2
  go_wp2_with fail
  refine (New_no 7 9 w1 (by decide)).mono ?_
  rintro e w2 ⟨rfl, rfl⟩
  go_wp2_with fail
  refine (Put_newT bP bS 7 2 mL0 0 ⟨#[97]⟩ 1 w1 HW0.out (HT.out _ HB0.out) (by decide) (by unfold I64; decide) F0.out (by decide)).mono ?_
  rintro e w3 ⟨rfl, hW, hK⟩
  have HW1 := Lib.hid (show TT w3 bP bS 7 2 mL1 1 from hW)
  have HB1 := Lib.hid (HBK.out _ _ HB0.out hK)
  clear hW hK HW0 HB0
  go_wp2_with fail
  refine (Put_newT bP bS 7 2 mL1 1 ⟨#[98]⟩ 2 w3 HW1.out (HT.out _ HB1.out) (by decide) (by unfold I64; decide) F1.out (by decide)).mono ?_
  rintro e w4 ⟨rfl, hW, hK⟩
  have HW2 := Lib.hid (show TT w4 bP bS 7 2 mL2 2 from hW)
  have HB2 := Lib.hid (HBK.out _ _ HB1.out hK)
  clear hW hK HW1 HB1
  go_wp2_with fail
  refine (Put_setT bP bS 7 2 mL2 2 ⟨#[97]⟩ 3 w4 HW2.out (HT.out _ HB2.out) (by decide) (by unfold I64; decide) F2.out).mono ?_
  rintro e w5 ⟨rfl, hW, hK⟩
  have HW3 := Lib.hid (show TT w5 bP bS 7 2 mL3 2 from hW)
  have HB3 := Lib.hid (HBK.out _ _ HB2.out hK)
  clear hW hK HW2 HB2
  go_wp2_with fail
  refine (Put_badT bP bS 7 2 mL3 2 ⟨#[]⟩ 1 w5 HW3.out (HT.out _ HB3.out) (by decide) (by unfold I64; decide) (by decide)).mono ?_
  rintro e w6 ⟨rfl, hW, hK⟩
  have HW4 := Lib.hid (show TT w6 bP bS 7 2 mL3 2 from hW)
  have HB4 := Lib.hid (HBK.out _ _ HB3.out hK)
  clear hW hK HW3 HB3
  go_wp2_with fail
  refine (Get_at bP bS 7 2 mL3 2 ⟨#[97]⟩ (some 3) w6 HW4.out (HT.out _ HB4.out) (by decide) F3.out).mono ?_
  rintro e w7 ⟨rfl, hb⟩
  have HW5 := Lib.hid (HW4.out.below hb)
  have HB5 := Lib.hid (HB4.out.trans (hb.mono HB4.out.size))
  clear hb HW4 HB4
  go_wp2_with fail
  refine (Get_at bP bS 7 2 mL3 2 ⟨#[122]⟩ none w7 HW5.out (HT.out _ HB5.out) (by decide) F4.out).mono ?_
  rintro e w8 ⟨rfl, hb⟩
  have HW6 := Lib.hid (HW5.out.below hb)
  have HB6 := Lib.hid (HB5.out.trans (hb.mono HB5.out.size))
  clear hb HW5 HB5
  go_wp2_with fail
  refine (Delete_at bP bS 7 2 mL3 2 ⟨#[98]⟩ true w8 HW6.out (HT.out _ HB6.out) (by decide) F5.out).mono ?_
  rintro e w9 ⟨rfl, hW, hK⟩
  have HW7 := Lib.hid (show TT w9 bP bS 7 2 mL4 1 from hW)
  have HB7 := Lib.hid (HBK.out _ _ HB6.out hK)
  clear hW hK HW6 HB6
  go_wp2_with fail
  refine (Delete_at bP bS 7 2 mL4 1 ⟨#[98]⟩ false w9 HW7.out (HT.out _ HB7.out) (by decide) F6.out).mono ?_
  rintro e w10 ⟨rfl, hW, hK⟩
  have HW8 := Lib.hid (show TT w10 bP bS 7 2 mL5 1 from hW)
  have HB8 := Lib.hid (HBK.out _ _ HB7.out hK)
  clear hW hK HW7 HB7
  go_wp2_with fail
  refine (Keys_one bP bS 7 2 mL5 ⟨#[97]⟩ w10 HW8.out F7.out).mono ?_
  rintro e w11 ⟨gk, ck, rfl, hc, hb⟩
  have HW9 := Lib.hid (HW8.out.below hb)
  have HB9 := Lib.hid (HB8.out.trans (hb.mono HB8.out.size))
  have HC := Lib.hid hc
  clear hb HW8 HB8 hc
  go_wp2_with fail
  refine (Slots_len bP bS 7 2 mL5 1 4 w11 HW9.out rfl).mono ?_
  rintro e w12 ⟨gs, cs, rfl, hb⟩
  have HW10 := Lib.hid (HW9.out.below hb)
  have HB10 := Lib.hid (HB9.out.trans (hb.mono HB9.out.size))
  have HC2 := Lib.hid hb
  clear hb HW9 HB9
  go_wp2_with fail
  refine (Len_T bP bS 7 2 mL5 1 w12 HW10.out).mono ?_
  rintro e w13 ⟨rfl, hb⟩
  have HB11 := Lib.hid (HB10.out.trans (hb.mono HB10.out.size))
  have c0 := HC.out w13 (HC2.out.trans (hb.mono HC2.out.size))
  clear hb
  go_wp2
  go_ret
  exact ⟨rfl, HB11.out⟩
end Go.Proofs.YtgcdminjpdbchaaDoor
