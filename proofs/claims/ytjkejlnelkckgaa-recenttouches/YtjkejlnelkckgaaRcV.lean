/- A Recent told by its ids in order: the contracts of New and Order. -/
import Derived.Test.YtjkejlnelkckgaaRcU
namespace Go.Proofs.Ytjkejlnelkckgaa
open Go.ChangeShapes Go.WideShapes Go.ChangeAt Go.RowKit
set_option linter.unusedVariables false

theorem New_T (w : World) : Calls Try.prog 8 #[] w fun e w' => ∃ bP bM, e = .returned (.pointer (some ⟨bP, 0, none⟩)) ∧ RC w' bP bM [] ∧ Below w.heap.size w w' ∧ w.heap.size ≤ bP ∧ w.heap.size ≤ bM := by
  have hmm := @run_makeMap Try.prog
  obtain ⟨w1, hrun, hm, hk, hz⟩ := (IMap.made (E := lkE) w).store Try.underlying47 (show 0 < maxLen by decide) (show I64 (-1) by unfold I64; omega) (-1, -1)
  rw [show lkE.val (-1, -1) = .agg #[.int .i64 (-1), .int .i64 (-1)] from rfl] at hrun
  have hz' : w1.heap.size = w.heap.size + 1 := by rw [hz]; simp
  have hb : Below w.heap.size w w1 := ((Below.refl _ _).alloc (Nat.le_refl _) _).trans (hk.below (by simp) (fun i hi e => by omega))
  have hh := Has.made w1 49 [.map (some w.heap.size)]
  have hb2 := hb.alloc hb.size (.cells #[.map (some w.heap.size)] 49)
  have HR := Lib.hid (show RC (w1.alloc (.cells #[.map (some w.heap.size)] 49)) w1.heap.size w.heap.size [] from
    ⟨putL (fun _ => none) (-1) (-1, -1), ⟨hh, hm.kept (F := fun _ => False) ((Kept.refl _ _).alloc _) id⟩, RepL.new⟩)
  have HB := Lib.hid hb2
  have HZ := Lib.hid hz'
  clear hm hk hz hz' hb hh hb2
  go_enter Try.func8, Try.ntmps8
  go_wp2
  go_ret
  exact ⟨_, _, rfl, HR.out, HB.out, by have := HZ.out; omega, Nat.le_refl _⟩
theorem idsV_snoc {l : List Nat} {j x : Nat} (h : l[j]? = some x) : idsV (l.take (j + 1)) = idsV (l.take j) ++ [.int .i64 (x : Int)] := by
  rw [List.take_add_one, h]; simp [idsV]
set_option maxRecDepth 100000 in
theorem Order_T (bP bM : Nat) (l : List Nat) (w : World) (h : RC w bP bM l) (hl : l.length ≤ 900) : Calls Try.prog 20 #[.pointer (some ⟨bP, 0, none⟩)] w (IdsTold l w) := by
  have HO := Lib.hid (Oldest_T bP bM l w h)
  have HW := Lib.hid h
  have HLT := Lib.hid h.lt
  clear h
  go_enter Try.func20, Try.ntmps20
  go_wp2_with fail
  refine HO.out.mono ?_
  rintro e w1 ⟨rfl, hb⟩
  have HW1 := Lib.hid (HW.out.below hb)
  have HB1 := Lib.hid hb
  have e0 : l.head? = l[0]? := by cases l <;> rfl
  rw [e0]
  obtain ⟨q0, hq0⟩ : ∃ q0, ((l[0]?).map fun (x : Nat) => (x : Int)).getD 0 = q0 := ⟨_, rfl⟩
  obtain ⟨r0, hr0⟩ : ∃ r0, (l[0]?).isSome = r0 := ⟨_, rfl⟩
  rw [hq0, hr0]
  have HQ0 := Lib.hid hq0
  have HR0 := Lib.hid hr0
  clear hb HO e0 hq0 hr0
  go_wp2_with fail
  go_loopw [3, 4, 5] (fun v x r wr => ∃ j : Nat, j ≤ l.length ∧ x = .int .i64 (((l[j]?).map fun (x : Nat) => (x : Int)).getD 0) ∧ r = .bool (l[j]?).isSome ∧ Own1 w.heap.size 3 wr v (idsV (l.take j)) ∧ RC wr bP bM l ∧ Below w.heap.size w wr) (fun v _ _ _ => l.length - (match v with | .slice _ n _ => n | _ => 0))
  case atStart => exact ⟨0, Nat.zero_le _, by rw [HQ0.out], by rw [HR0.out], Own1.nil _ _ _, HW1.out, HB1.out⟩
  case round =>
    obtain ⟨j, hj, rfl, rfl, hO, hI, hB⟩ := hrel
    have HO := Lib.hid hO
    have HI := Lib.hid hI
    have HB := Lib.hid hB
    by_cases hlt : j < l.length
    · obtain ⟨x, hx⟩ : ∃ x, l[j]? = some x := ⟨_, List.getElem?_eq_getElem hlt⟩
      rw [hx, Option.map_some, Option.getD_some, Option.isSome_some]
      have HX := Lib.hid hx
      have hlen : (idsV (l.take j)).length = j := by rw [idsV_len, List.length_take]; omega
      have HLEN := Lib.hid hlen
      have hvl := hO.sl
      rw [hlen] at hvl
      obtain ⟨A, cap, rfl⟩ := hvl
      have HSZ := Lib.hid hB.size
      clear hO hI hB hx hlen HW1 HB1
      go_wp2_with (at_builtin; refine wpList_append_own1 wr wr.heap.size rfl rfl _ _ 26 rfl 3 (.int .i64 0) 8 Try.underlying26 Try.infoInt rfl (by decide) _ (.int .i64 (x : Int)) (idsV (l.take j)) j HLEN.out rfl rfl rfl HO.out HSZ.out (by omega) ?_)
      intro g cap1 w2 ho hk hg hgl
      have hown : ∀ b, (Value.slice A j cap).ownBlock = some b → w.heap.size ≤ b := fun b hb => HO.out.ge hb
      have hlt2 := HLT.out
      have HI2 := Lib.hid (HI.out.kept hk (fun e => by have := hown _ e; omega) (fun e => by have := hown _ e; omega))
      have HB2 := Lib.hid (HB.out.trans (hk.below HB.out.size (fun b hb e => by have := hown _ e; omega)))
      have HO2 := Lib.hid (show Own1 w.heap.size 3 w2 (.slice (some ⟨g, 0, none⟩) (j + 1) cap1) (idsV (l.take (j + 1))) by rw [idsV_snoc HX.out]; exact ho)
      clear ho hk hg hgl hown hlt2
      go_wp2_with fail
      refine (Newer_at bP bM l w2 HI2.out j x HX.out).mono ?_
      rintro e w3 ⟨rfl, hb⟩
      have HI3 := Lib.hid (HI2.out.below hb)
      have HB3 := Lib.hid (HB2.out.trans (hb.mono HB2.out.size))
      have HO3 := Lib.hid (HO2.out.kept (Kept.of_below (F := fun _ => False) hb) (fun _ _ => id))
      clear hb
      go_wp2
      go_roundw
      case rel => exact ⟨j + 1, by omega, rfl, rfl, HO3.out, HI3.out, HB3.out⟩
      case measure => simp; omega
    · have hjl : j = l.length := by omega
      have R := Lib.hid (show IdsTold l w (.returned u3) wr from ⟨u3, rfl, by rw [hjl, List.take_length] at hO; exact hO, hB⟩)
      have hz : l[j]? = none := List.getElem?_eq_none (by omega)
      rw [hz]
      clear hO hI hB hz
      go_wp2
      go_ret
      exact R.out
end Go.Proofs.Ytjkejlnelkckgaa
