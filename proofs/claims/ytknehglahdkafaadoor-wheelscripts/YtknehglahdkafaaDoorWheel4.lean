/- The contract of the wheel's New. -/
import Derived.Test.YtknehglahdkafaaDoorWheel3
namespace Go.Proofs.YtknehglahdkafaaDoor
open Go.ChangeShapes Go.WideShapes Go.ChangeAt Go.RowKit
set_option linter.unusedVariables false

/-- A wheel, so many of its rows having their ends. -/
def newW (j : Nat) : WS := ⟨0, List.replicate j (-1, -1) ++ List.replicate (64 - j) (0, 0), fun _ => none, 0⟩
def NewWh (w : World) (e : Ending) (w' : World) : Prop := ∃ bP bM, e = .returned (.pointer (some ⟨bP, 0, none⟩)) ∧ IsWh w' bP bM (newW 64) ∧ Below w.heap.size w w' ∧ w.heap.size ≤ bP ∧ w.heap.size ≤ bM
def zWh (v : Value) : List Value := .int .u64 0 :: (List.replicate 128 (.int .i64 0) ++ [v])
theorem Tryd.zeroWh (w : World) : (zeroValue 54).run Tryd.prog w = .ok (.agg (zWh (.map none)).toArray) w := by
  have : (Tryd.prog.info? 54).map (fun i => i.zero) = some (some (.agg (zWh (.map none)).toArray)) := by kernel_rfl
  cases h : Tryd.prog.info? 54 with
  | none => rw [h] at this; cases this
  | some i => rw [h] at this; simp at this; simp [zeroValue, typeInfo, h, this]
theorem zWh_set (v : Value) : (zWh (.map none)).toArray.setIfInBounds 129 v = (zWh v).toArray := by
  apply Array.ext'
  simp only [zWh, Array.toList_setIfInBounds]
  rfl
set_option maxRecDepth 100000 in
theorem zWh_new (b : Nat) : zWh (.map (some b)) = wheelV b (newW 0) := by rfl
theorem newW_len (j : Nat) (h : j ≤ 64) : (newW j).en.length = 64 := by simp [newW]; omega
theorem newW_at (j : Nat) (h : j < 64) : (newW j).en[j]? = some (0, 0) := by
  show (List.replicate j (-1, -1) ++ List.replicate (64 - j) (0, 0))[j]? = _
  rw [List.getElem?_append_right (by simp), List.length_replicate, Nat.sub_self, List.getElem?_replicate, if_pos (by omega)]
theorem newW_step (j : Nat) (h : j < 64) : ((newW j).setEn j (-1, 0)).setEn j (-1, -1) = newW (j + 1) := by
  unfold WS.setEn newW
  simp only [List.set_set]
  congr 1
  rw [List.set_append_right _ _ (by simp), List.length_replicate, Nat.sub_self, show 64 - j = (64 - (j + 1)) + 1 by omega, List.replicate_succ, List.set_cons_zero, List.replicate_succ', List.append_assoc]
  rfl
set_option maxRecDepth 100000 in
theorem New_wh (w : World) : Calls Tryd.prog 8 #[] w (NewWh w) := by
  have hmm := @run_makeMap Tryd.prog
  have hz := Tryd.zeroWh
  have hs : (zWh (.map none)).toArray.size = 130 := by rfl
  have hset := zWh_set (.map (some w.heap.size))
  have HS := Lib.hid (zWh_new w.heap.size)
  have hs2 : (zWh (.map (some w.heap.size))).toArray.size = 130 := by rfl
  have HS2 := Lib.hid (show (zWh (.map (some w.heap.size))).toArray.toList = wheelV w.heap.size (newW 0) by exact HS.out)
  generalize (zWh (.map none)).toArray = zc at *
  generalize (zWh (.map (some w.heap.size))).toArray = zd at *
  go_enter Tryd.func8, Tryd.ntmps8
  go_wp2
  have H0 := Lib.hid (show IsWh ((w.alloc (.map #[] 0)).alloc (.cells zd 54)) (w.heap.size + 1) w.heap.size (newW 0) from by
    refine ⟨?_, (IMap.made w).kept (F := fun _ => False) ((Kept.refl _ _).alloc _) id, newW_len 0 (by decide), by decide⟩
    have := Has.made (w.alloc (.map #[] 0)) 54 zd.toList
    rw [show (w.alloc (.map #[] 0)).heap.size = w.heap.size + 1 by simp] at this
    rw [← HS2.out]
    exact this)
  have HB0 := Lib.hid (show Below w.heap.size w ((w.alloc (.map #[] 0)).alloc (.cells zd 54)) from ((Below.refl _ _).alloc (Nat.le_refl _) _).alloc (by simp) _)
  clear hz hs hset HS hs2 HS2 hmm
  go_loopw [6] (fun i wr => ∃ j : Nat, j ≤ 64 ∧ i = .int .i64 (j : Int) ∧ IsWh wr (w.heap.size + 1) w.heap.size (newW j) ∧ Below w.heap.size w wr) (fun i _ => 64 - (intOf i).toNat)
  case atStart => exact ⟨0, by omega, rfl, H0.out, HB0.out⟩
  case round =>
    obtain ⟨j, hj, rfl, hI, hB⟩ := hrel
    have HI := Lib.hid hI
    have HB := Lib.hid hB
    by_cases hlt : j < 64
    · have e0 := hI.e0 (newW_at j hlt)
      have e1 := hI.e1 (newW_at j hlt)
      have l0 := hI.hd.loose (1 + j * 2)
      have l1 := hI.hd.loose (1 + j * 2 + 1)
      have hb := hI.hd.lt
      have HN := Lib.hid (show IsWh ((wr.setCell ⟨w.heap.size + 1, 1 + j * 2, none⟩ (.int .i64 (-1))).setCell ⟨w.heap.size + 1, 1 + j * 2 + 1, none⟩ (.int .i64 (-1))) (w.heap.size + 1) w.heap.size (newW (j + 1)) from by
        rw [← newW_step j hlt]
        exact (hI.first (newW_at j hlt) (-1)).last (p := (-1, 0)) (by show ((newW j).en.set j (-1, 0))[j]? = _; rw [List.getElem?_set_self (by rw [newW_len j hj]; exact hlt)]) (-1))
      have HB1 := Lib.hid (show Below w.heap.size w ((wr.setCell ⟨w.heap.size + 1, 1 + j * 2, none⟩ (.int .i64 (-1))).setCell ⟨w.heap.size + 1, 1 + j * 2 + 1, none⟩ (.int .i64 (-1))) from hB.trans ((((Kept.refl (fun x => x = w.heap.size + 1) wr).setCell (p := ⟨w.heap.size + 1, 1 + j * 2, none⟩) (.inl rfl) _).setCell (p := ⟨w.heap.size + 1, 1 + j * 2 + 1, none⟩) (.inl rfl) _).below hB.size (fun k hk e => by omega)))
      clear hI hB H0 HB0
      go_wp2
      go_roundw
      case rel => exact ⟨j + 1, by omega, by go_num, HN.out, HB1.out⟩
      case measure => simp [intOf]; omega
    · have R := Lib.hid (show NewWh w (.returned (.pointer (some ⟨w.heap.size + 1, 0, none⟩))) wr from by
        obtain rfl : j = 64 := by omega
        exact ⟨_, _, rfl, hI, hB, by omega, by omega⟩)
      clear hI hB H0 HB0
      go_wp2
      go_ret
      exact R.out
end Go.Proofs.YtknehglahdkafaaDoor
