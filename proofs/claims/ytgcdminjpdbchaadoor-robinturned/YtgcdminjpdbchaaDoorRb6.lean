/- The contracts of a table's New and Slots. -/
import Derived.Test.YtgcdminjpdbchaaDoorRb5
import Derived.OwnWalk
import Derived.Lib.SliceRun
namespace Go.Proofs.YtgcdminjpdbchaaDoor
open Go.ChangeShapes Go.WideShapes Go.ChangeAt Go.RowKit
set_option linter.unusedVariables false

theorem made_flat {α : Type} (f : α → List Value) (m : Nat) (hm : ∀ a, (f a).length = m) (h0 : 0 < m) (a : α) (n : Nat) : madeCells (f a).toArray (n * m) = ((List.replicate n a).flatMap f).toArray := by
  apply Array.ext'
  apply List.ext_getElem?
  intro j
  have hj : j = (j / m) * m + j % m := by rw [Nat.mul_comm]; exact (Nat.div_add_mod j m).symm
  have hr : j % m < m := Nat.mod_lt _ h0
  by_cases hlt : j < n * m
  · have hd : j / m < n := (Nat.div_lt_iff_lt_mul h0).2 hlt
    have h2 : ((List.replicate n a).flatMap f)[j]? = (f a)[j % m]? := by
      rw [hj, flatMap_get f m hm _ _ _ hr, ← hj]
      simp [hd]
    rw [List.toList_toArray, h2]
    simp [madeCells, hlt, hm]
    have : j % m < (f a).length := by rw [hm]; exact hr
    simp [this]
  · have e1 : (madeCells (f a).toArray (n * m)).toList[j]? = none := by rw [List.getElem?_eq_none]; rw [Array.length_toList, size_madeCells]; omega
    have e2 : ((List.replicate n a).flatMap f)[j]? = none := by rw [List.getElem?_eq_none]; rw [flatMap_len f m hm]; simp; omega
    rw [e1, List.toList_toArray, e2]

theorem Tryd.infoSlot : (Tryd.prog.info? 52).map (fun i => (i.zero, i.size, i.bytes)) = some (some (.agg #[.bool false, .string ByteArray.empty, .int .i64 0, .int .i64 0]), 4, 40) := by kernel_rfl
theorem run_makeS (n : Nat) (hk : n ≤ 256) (u : World) : (Instr.makeSlice 45 (.int .i64 (n : Int)) (.int .i64 (n : Int))).run Tryd.prog u =
      .ok (.slice (some ⟨u.heap.size, 0, none⟩) n n) (u.alloc (.cells ((List.replicate n zS).flatMap slV).toArray 52)) := by
  obtain ⟨i0, hi, hz0, hz1, hz2⟩ := info_parts Tryd.infoSlot
  have h := run_make (P := Tryd.prog) u 45 52 i0 _ Tryd.underlying45 hi hz0 .i64 .i64 (n : Int) (n : Int) (by omega) (Int.le_refl _) (by rw [hz2]; omega) (by omega)
  rw [← made_flat slV 4 slV_len (by decide)]
  simpa [hz1, Value.cells, slV, zS] using h
theorem New_no (seed : Nat) (b : Int) (w : World) (hb : ¬ (1 ≤ b ∧ b ≤ 8)) : Calls Tryd.prog 12 #[.int .u64 (seed : Int), .int .i64 b] w fun e w' => e = .returned (.tuple #[.pointer none, .int .i64 1]) ∧ w = w' := by
  by_cases h1 : b < 1
  · clear hb
    go_enter Tryd.func12, Tryd.ntmps12
    go_wp2
    go_ret2
    exact ⟨rfl, rfl⟩
  · have h2 : 8 < b := by omega
    clear hb
    go_enter Tryd.func12, Tryd.ntmps12
    go_wp2
    go_ret2
    exact ⟨rfl, rfl⟩
def NewTold (seed bits : Nat) (w : World) (e : Ending) (w' : World) : Prop := ∃ bP bS, e = .returned (.tuple #[.pointer (some ⟨bP, 0, none⟩), .int .i64 0]) ∧ Tb w' bP bS seed bits (2 ^ bits) (List.replicate (2 ^ bits) zS) ∧ Below w.heap.size w w' ∧ w.heap.size ≤ bP ∧ w.heap.size ≤ bS
theorem new_tb (seed bits : Nat) (w : World) (hs : U seed) (b1 : 1 ≤ bits) (b2 : bits ≤ 8) : NewTold seed bits w (.returned (.tuple #[.pointer (some ⟨w.heap.size + 1, 0, none⟩), .int .i64 0])) ((w.alloc (.cells ((List.replicate (2 ^ bits) zS).flatMap slV).toArray 52)).alloc (.cells #[.int .u64 (seed : Int), .int .i64 (bits : Int), .slice (some ⟨w.heap.size, 0, none⟩) (2 ^ bits) (2 ^ bits)] 64)) := by
  have e : ∀ i, atS (List.replicate (2 ^ bits) zS) i = zS := fun i => by
    unfold atS
    rw [List.getD_eq_getElem?_getD, List.getElem?_replicate]
    split <;> rfl
  have h2 : 2 ≤ 2 ^ bits := by
    have := Nat.pow_le_pow_right (n := 2) (by decide) b1
    simpa using this
  refine ⟨w.heap.size + 1, w.heap.size, rfl, ⟨⟨?_, ?_, by simp, by omega⟩, WellT.new h2 (fun k => ?_), hs, b1, b2, rfl, fun i _ q => ?_, fun i _ => ?_⟩, ((Below.refl _ _).alloc (Nat.le_refl _) _).alloc (by simp) _, by omega, Nat.le_refl _⟩
  · have := Has.made (w.alloc (.cells ((List.replicate (2 ^ bits) zS).flatMap slV).toArray 52)) 64 [.int .u64 (seed : Int), .int .i64 (bits : Int), .slice (some ⟨w.heap.size, 0, none⟩) (2 ^ bits) (2 ^ bits)]
    rw [show (w.alloc (.cells ((List.replicate (2 ^ bits) zS).flatMap slV).toArray 52)).heap.size = w.heap.size + 1 by simp] at this
    exact this
  · exact (Has.made w 52 ((List.replicate (2 ^ bits) zS).flatMap slV)).alloc _
  · by_cases q : k.size ≤ maxLen
    · rw [if_pos q]; exact hmF_lt hs b2 rfl k q
    · rw [if_neg q]; omega
  · rw [e] at q; cases q
  · rw [e]; unfold I64 zS; simp
set_option maxRecDepth 100000 in
theorem New_yes (seed bits : Nat) (w : World) (hs : U seed) (b1 : 1 ≤ bits) (b2 : bits ≤ 8) : Calls Tryd.prog 12 #[.int .u64 (seed : Int), .int .i64 (bits : Int)] w (NewTold seed bits w) := by
  have R := Lib.hid (new_tb seed bits w hs b1 b2)
  have M := run_makeS (2 ^ bits) (Nat.le_trans (Nat.pow_le_pow_right (by decide) b2) (by decide))
  have hc : bits = 1 ∨ bits = 2 ∨ bits = 3 ∨ bits = 4 ∨ bits = 5 ∨ bits = 6 ∨ bits = 7 ∨ bits = 8 := by omega
  obtain ⟨cs, hcs⟩ : ∃ cs, ((List.replicate (2 ^ bits) zS).flatMap slV).toArray = cs := ⟨_, rfl⟩
  rw [hcs] at R
  simp only [hcs] at M
  clear hcs hs b1 b2
  rcases hc with rfl | rfl | rfl | rfl | rfl | rfl | rfl | rfl
  all_goals
    simp only [Nat.reducePow] at M R
    push_cast at M
    go_enter Tryd.func12, Tryd.ntmps12
    go_wp2
    go_ret2
    exact R.out
/-- A list of slots of a call's own. -/
def SlotsTold (s : List RS) (w : World) (e : Ending) (w' : World) : Prop := ∃ v, e = .returned v ∧ w'.ownsRow w.heap.size 52 4 v s.length (s.flatMap slV) ∧ Below w.heap.size w w'
theorem slV_one (s : List RS) : ∀ u ∈ s.flatMap slV, u.oneCell' = true := fun u hu => by
  obtain ⟨x, _, hx⟩ := List.mem_flatMap.1 hu
  unfold slV at hx
  simp at hx
  rcases hx with rfl | rfl | rfl | rfl <;> rfl
theorem CloneS_any (g : Nat) (n : Nat) (s : List RS) (w : World) (hl : s.length = n) (h0 : n ≤ 256) (hw : Has w g 52 (s.flatMap slV)) (hp : 0 < n) :
    Calls Tryd.prog 31 #[.slice (some ⟨g, 0, none⟩) n n] w (SlotsTold s w) := by
  obtain ⟨i0, hi, hz0, hz1, hz2⟩ := info_parts Tryd.infoSlot
  have HI := Lib.hid (And.intro hi (And.intro hz0 (And.intro hz1 hz2)))
  have HO := Lib.hid (show (w.alloc (Obj.cells #[] 52)).ownsRow w.heap.size 52 4 (.slice (some ⟨w.heap.size, 0, none⟩) 0 0) 0 [] from World.ownsRow_lit w #[] 0 (Nat.le_refl _) (by unfold maxLen; omega) rfl)
  have HW := Lib.hid (hw.alloc (Obj.cells #[] 52))
  have HL := Lib.hid hl
  clear hi hz0 hz1 hz2 hw hl
  have hq : ∀ W, (binOp .eql 45 (.slice (some ⟨g, 0, none⟩) n n) (.slice none 0 0)).run Tryd.prog W = .ok (.bool false) W := fun W => Lib.run_eql_slice_nil W _ _ (some ⟨g, 0, none⟩) n n 0 0 Tryd.underlying45
  go_enter Tryd.func31, Tryd.ntmps31
  go_wp2_with (first | (at_builtin; refine wpList_append_own _ rfl _ _ 45 rfl w.heap.size 52 i0 (.agg #[.bool false, .string ByteArray.empty, .int .i64 0, .int .i64 0]) 4 40 Tryd.underlying45 HI.out.1 HI.out.2.1 HI.out.2.2.1 HI.out.2.2.2 rfl (by decide) _ 0 [] rfl HO.out ⟨g, 0, none⟩ n n (s.flatMap slV) rfl ?c1 ?c2 ?c3 ?c4 ?c5 ?c6 ?_))
  case c1 => rw [flatMap_len slV 4 slV_len, HL.out]
  case c2 =>
    intro j u hj
    rw [show (⟨g, 0, none⟩ : Addr).add j = ⟨g, j, none⟩ by unfold Addr.add; split <;> simp_all, HW.out.cell j, hj]
  case c3 => exact slV_one s
  case c4 => unfold maxLen; omega
  case c5 => omega
  case c6 => simp
  intro v' w1 hown' hgrow hnil
  have hbel : Below w.heap.size w w1 := ((Below.refl _ _).alloc (Nat.le_refl _) (Obj.cells #[] 52)).grown hgrow (by simp) (fun k hk => by simp [Value.ownBlock] at hk; omega)
  have R := Lib.hid (show SlotsTold s w (.returned v') w1 from ⟨v', rfl, by rw [HL.out]; simpa using hown', hbel⟩)
  clear hown' hgrow hnil hbel
  go_wp2
  go_ret
  exact R.out
theorem Slots_nil (w : World) : Calls Tryd.prog 20 #[.pointer none] w fun e w' => e = .returned (.slice none 0 0) ∧ w = w' := by
  go_enter Tryd.func20, Tryd.ntmps20
  go_wp2
  go_ret
  exact ⟨rfl, rfl⟩
theorem Slots_any (bP bS seed bits n : Nat) (s : List RS) (w : World) (h : Tb w bP bS seed bits n s) : Calls Tryd.prog 20 #[.pointer (some ⟨bP, 0, none⟩)] w (SlotsTold s w) := by
  have HC := Lib.hid (CloneS_any bS n s w h.is.le h.n256 h.is.sl (by have := h.we.n2; omega))
  have p2 := h.is.p2
  have hb := h.is.lt.1
  clear h
  go_enter Tryd.func20, Tryd.ntmps20
  go_wp2_with fail
  refine HC.out.mono ?_
  rintro e w1 ⟨v, rfl, h1, h2⟩
  have R := Lib.hid (show SlotsTold s w (.returned v) w1 from ⟨v, rfl, h1, h2⟩)
  clear h1 h2
  go_wp2
  go_ret
  exact R.out
end Go.Proofs.YtgcdminjpdbchaaDoor
