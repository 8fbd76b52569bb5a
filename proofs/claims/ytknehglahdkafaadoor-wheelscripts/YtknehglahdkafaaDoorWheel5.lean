/- The contracts of the wheel's Drop, Where and Add. -/
import Derived.Test.YtknehglahdkafaaDoorWheel4
namespace Go.Proofs.YtknehglahdkafaaDoor
open Go.ChangeShapes Go.WideShapes Go.ChangeAt Go.RowKit
set_option linter.unusedVariables false

/-- What a wheel has in it can be told by ints; slots are slots. -/
structure WS.Ok (s : WS) : Prop where
  pl : ∀ k p, s.pl k = some p → (0 ≤ p.1 ∧ p.1 < 64) ∧ I64 p.2.1 ∧ I64 p.2.2
  en : ∀ p ∈ s.en, I64 p.1 ∧ I64 p.2
def WS.drop (s : WS) (k : Int) : WS :=
  match s.pl k with
  | none => s
  | some p => (s.delPl k).join p.1.toNat p.2.1 p.2.2
/-- A call tells v; the wheel is s' then. -/
theorem Drop_no (bP bM : Nat) (k : Int) (s : WS) (w : World) (h : IsWh w bP bM s) (hk : I64 k) (hp : s.pl k = none) :
    Calls Tryd.prog 16 #[.pointer (some ⟨bP, 0, none⟩), .int .i64 k] w fun e w' => e = .returned (.bool false) ∧ Below w.heap.size w w' := by
  have HF := Lib.hid (find_any bP bM s k 0 0 0 false w h hk (by rw [hp]; rfl) (by rw [hp]; rfl))
  clear h hk hp
  go_enter Tryd.func16, Tryd.ntmps16
  go_wp2_with fail
  refine HF.out.mono ?_
  rintro e w1 ⟨rfl, hb⟩
  have HB := Lib.hid (hb.alloc hb.size (.cells #[.int .i64 0, .int .i64 0, .int .i64 0] 56))
  clear hb
  go_wp2
  go_ret
  exact ⟨rfl, HB.out⟩
theorem Drop_nil (k : Int) (w : World) : Calls Tryd.prog 16 #[.pointer none, .int .i64 k] w fun e w' => e = .returned (.bool false) ∧ Below w.heap.size w w' := by
  go_enter Tryd.func16, Tryd.ntmps16
  go_wp2_with fail
  refine (find_nil k w).mono ?_
  rintro e w1 ⟨rfl, hb⟩
  have HB := Lib.hid (hb.alloc hb.size (.cells #[.int .i64 0, .int .i64 0, .int .i64 0] 56))
  clear hb
  go_wp2
  go_ret
  exact ⟨rfl, HB.out⟩
theorem Where_nil (k : Int) (w : World) : Calls Tryd.prog 20 #[.pointer none, .int .i64 k] w fun e w' => e = .returned (.tuple #[.int .i64 0, .bool false]) ∧ Below w.heap.size w w' := by
  go_enter Tryd.func20, Tryd.ntmps20
  go_wp2_with fail
  refine (find_nil k w).mono ?_
  rintro e w1 ⟨rfl, hb⟩
  have HB := Lib.hid (hb.alloc hb.size (.cells #[.int .i64 0, .int .i64 0, .int .i64 0] 56))
  clear hb
  go_wp2
  go_ret2
  exact ⟨rfl, HB.out⟩
theorem Where_any (bP bM : Nat) (k : Int) (a b c : Int) (r : Bool) (s : WS) (w : World) (h : IsWh w bP bM s) (hk : I64 k) (hp : (s.pl k).getD (0, 0, 0) = (a, b, c)) (hr : (s.pl k).isSome = r) :
    Calls Tryd.prog 20 #[.pointer (some ⟨bP, 0, none⟩), .int .i64 k] w fun e w' => e = .returned (.tuple #[.int .i64 a, .bool r]) ∧ Below w.heap.size w w' := by
  have HF := Lib.hid (find_any bP bM s k a b c r w h hk hp hr)
  clear h hk hp hr
  go_enter Tryd.func20, Tryd.ntmps20
  go_wp2_with fail
  refine HF.out.mono ?_
  rintro e w1 ⟨rfl, hb⟩
  have HB := Lib.hid (hb.alloc hb.size (.cells #[.int .i64 a, .int .i64 b, .int .i64 c] 56))
  clear hb
  go_wp2
  go_ret2
  exact ⟨rfl, HB.out⟩
set_option maxRecDepth 100000 in
theorem Drop_yes (bP bM : Nat) (k : Int) (i : Nat) (a b : Int) (s : WS) (w : World) (h : IsWh w bP bM s) (hk : I64 k) (hp : s.pl k = some ((i : Int), a, b)) (hi : i < 64) (ka : I64 a) (kb : I64 b) (hn : s.n ≤ 100000) :
    Calls Tryd.prog 16 #[.pointer (some ⟨bP, 0, none⟩), .int .i64 k] w (WhTells bP bM (s.drop k) (.bool true) w) := by
  have HF := Lib.hid (find_any bP bM s k i a b true w h hk (by rw [hp]; rfl) (by rw [hp]; rfl))
  have HW := Lib.hid h
  have HK := Lib.hid hk
  have HD := Lib.hid (show s.drop k = (s.delPl k).join i a b by unfold WS.drop; rw [hp]; rfl)
  have HN := Lib.hid (show (s.delPl k).n ≤ 100000 by show (if (s.pl k).isSome then s.n - 1 else s.n) ≤ 100000; split <;> omega)
  have HH := Lib.hid (And.intro hi (And.intro ka kb))
  have HSM := Lib.hid (show (s.pl k).isSome = true by rw [hp]; rfl)
  have hbP := h.hd.lt
  have hbM := h.mp.lt
  have PM := Lib.hid h.pM
  clear h hk hp ka kb hn hi
  go_enter Tryd.func16, Tryd.ntmps16
  go_wp2_with fail
  refine HF.out.mono ?_
  rintro e w1 ⟨rfl, hb⟩
  have hA := (HW.out.below hb).below ((Below.refl _ w1).alloc (Nat.le_refl _) (.cells #[.int .i64 (i : Int), .int .i64 a, .int .i64 b] 56))
  have HA := Lib.hid hA
  have pM := (HW.out.below hb).pM
  have hb1 := (HW.out.below hb).hd.lt
  have hsz := hb.size
  have HKA := Lib.hid (show Kept (two bP bM) w (w1.alloc (.cells #[.int .i64 (i : Int), .int .i64 a, .int .i64 b] 56)) from (Kept.of_below hb).alloc _)
  clear hb hA
  go_wp2_with (at_delete; refine wpList_mdelete plE (w1.alloc (.cells #[.int .i64 (i : Int), .int .i64 a, .int .i64 b] 56)) rfl _ _ 49 56 rfl Tryd.underlying49 bM s.n s.pl rfl HA.out.mp k rfl HK.out (s.delPl k).n rfl ?_)
  intro w2 hm hkp hz
  have HW2 := Lib.hid (HA.out.del (k := k) hm hkp)
  have HB2 := (Has.made w1 56 [.int .i64 (i : Int), .int .i64 a, .int .i64 b]).kept hkp (by omega)
  have c0 := HB2.cell 0
  have c1 := HB2.cell 1
  have c2 := HB2.cell 2
  simp at c0 c1 c2
  have HK2 := Lib.hid (two_trans HKA.out (two_bM (F := fun _ => False) hkp))
  clear hm hkp hz HB2 HA HKA
  go_wp2_with fail
  refine (join_any bP bM i a b (s.delPl k) w2 HW2.out HH.out.1 HH.out.2.1 HH.out.2.2 HN.out).mono ?_
  rintro e w3 ⟨rfl, h3, k3⟩
  have R := Lib.hid (show WhTells bP bM (s.drop k) (.bool true) w (.returned (.bool true)) w3 from by rw [HD.out]; exact ⟨rfl, h3, two_trans HK2.out k3⟩)
  clear h3 k3
  go_wp2
  go_ret
  exact R.out
end Go.Proofs.YtknehglahdkafaaDoor
