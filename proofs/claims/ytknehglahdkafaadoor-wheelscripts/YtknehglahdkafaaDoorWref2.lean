/- The document's own wheel: Drop. -/
import Derived.Test.YtknehglahdkafaaDoorWref1
namespace Go.Proofs.YtknehglahdkafaaDoor
open Go.ChangeShapes Go.WideShapes Go.ChangeAt Go.RowKit
set_option linter.unusedVariables false

theorem ints_of_owns {w : World} {B g n cap : Nat} {l : List Nat} (h : w.ownsRow B 3 1 (.slice (some ⟨g, 0, none⟩) n cap) n (idsV l)) (hn : l.length = n) : IntsAt w (some ⟨g, 0, none⟩) cap (l.map fun (x : Nat) => (x : Int)) := by
  obtain ⟨rest, hh, _, hl⟩ := has_of_owns h
  refine ⟨by rw [List.length_map]; omega, fun _ => ⟨g, rfl, fun i z hz => ?_⟩⟩
  rw [List.getElem?_map] at hz
  cases hx : l[i]? with
  | none => rw [hx] at hz; cases hz
  | some x =>
    rw [hx] at hz
    have hlt := (List.getElem?_eq_some_iff.1 hx).1
    rw [hh.cell i, List.getElem?_append_left (by rw [idsV_len]; exact hlt), idsV, List.getElem?_map, hx]
    simp at hz
    rw [← hz]; rfl
/-- A list without an id. -/
def flt (l : List Nat) (x : Nat) : List Nat := l.filter fun y => decide (y ≠ x)
theorem flt_yes {l : List Nat} {q x y : Nat} (h : l[q]? = some y) (hy : y ≠ x) : flt (l.take (q + 1)) x = flt (l.take q) x ++ [y] := by
  unfold flt
  rw [List.take_add_one, h, Option.toList_some, List.filter_append]
  simp [hy]
theorem flt_no {l : List Nat} {q x : Nat} (h : l[q]? = some x) : flt (l.take (q + 1)) x = flt (l.take q) x := by
  unfold flt
  rw [List.take_add_one, h, Option.toList_some, List.filter_append]
  simp
theorem flt_len (l : List Nat) (q x : Nat) : (flt (l.take q) x).length ≤ q := Nat.le_trans (List.length_filter_le _ _) (List.length_take_le _ _)
theorem own_eq {g n c b : Nat} (h : (Value.slice (some ⟨g, 0, none⟩) n c).ownBlock = some b) : b = g := by simpa [Value.ownBlock] using h.symm
/-- What a Drop of the document's wheel tells. -/
def RDrop (bR : Nat) (N : Nat → Prop) (R' : Nat → List Nat) (r : Bool) (w : World) (e : Ending) (w' : World) : Prop := ∃ vs', e = .returned (.bool r) ∧ RW w' bR N R' vs' ∧ Kept (fun b => b = bR) w w'
set_option maxRecDepth 100000 in
theorem rDrop_yes (bR : Nat) (N : Nat → Prop) (R : Nat → List Nat) (vs : List Value) (w : World) (h : RW w bR N R vs) (hN : ∀ b, N b → b < w.heap.size) (hap : ∀ i j x, i < 64 → j < 64 → x ∈ R i → x ∈ R j → i = j) (t x : Nat) (ht : t < 64) (hx : x ∈ R t) :
    Calls Tryd.prog 23 #[.pointer (some ⟨bR, 0, none⟩), .int .i64 (x : Int)] w (RDrop bR N (dropR R x) true w) := by
  have HW := Lib.hid (rWhere_any bR N R vs w h (x : Int))
  have HWI := Lib.hid (show WhereAt R (x : Int) (.int .i64 (t : Int)) (.bool true) from .inl ⟨t, x, ht, hx, rfl, rfl, rfl⟩)
  have HAP := Lib.hid hap
  have H := Lib.hid h
  have HNN := Lib.hid hN
  have hb := h.ar.lt
  have hl := h.len ht
  have HX := Lib.hid hx
  clear h hN hap hx
  go_enter Tryd.func23, Tryd.ntmps23
  go_wp2_with fail
  refine HW.out.mono ?_
  rintro e w1 ⟨a, b, rfl, rfl, hwh⟩
  obtain ⟨rfl, rfl⟩ := hwh.one HAP.out HWI.out
  clear hwh HW HWI
  obtain ⟨l, hll⟩ : ∃ l, R t = l := ⟨_, rfl⟩
  have HLL := Lib.hid hll
  rw [hll] at hl
  clear hll
  obtain ⟨n, hn⟩ : ∃ n, l.length = n := ⟨_, rfl⟩
  have HLN := Lib.hid hn
  rw [hn] at hl
  clear hn
  have H0 := Lib.hid (show (w.alloc (.cells #[] 3)).ownsRow w.heap.size 3 1 (.slice (some ⟨w.heap.size, 0, none⟩) 0 0) 0 (idsV []) from Has.owns (rest := []) (Has.made w 3 []) rfl rfl (by decide) (Nat.le_refl _))
  have B0 := Lib.hid (show Below w.heap.size w (w.alloc (.cells #[] 3)) from (Below.refl _ _).alloc (Nat.le_refl _) _)
  go_wp2_with fail
  go_loopw [7, 8] (fun v7 i wx => ∃ (q g cap : Nat), q ≤ n ∧ i = .int .i64 (q : Int) ∧ v7 = .slice (some ⟨g, 0, none⟩) (flt (l.take q) x).length cap ∧ wx.ownsRow w.heap.size 3 1 v7 (flt (l.take q) x).length (idsV (flt (l.take q) x)) ∧ w.heap.size ≤ g ∧ Below w.heap.size w wx) (fun _ i _ => n - (intOf i).toNat)
  case atStart => exact ⟨0, w.heap.size, 0, by omega, rfl, rfl, H0.out, Nat.le_refl _, B0.out⟩
  case round =>
    clear H0 B0
    obtain ⟨q, g, cap, hq, rfl, rfl, hO, hg, hB⟩ := hrel
    have HO := Lib.hid hO
    have HB := Lib.hid hB
    have hRW := H.out.below hB
    obtain ⟨A, capR, d0, hcR, hI⟩ := hRW.get ht
    rw [HLL.out, HLN.out] at d0 hcR
    rw [HLL.out] at hI
    have hb2 := hRW.ar.lt
    have HI := Lib.hid hI
    have HRW := Lib.hid hRW
    have hfl := flt_len l q x
    obtain ⟨m, hm⟩ : ∃ m, (flt (l.take q) x).length = m := ⟨_, rfl⟩
    have HM := Lib.hid hm
    rw [hm] at HO hfl ⊢
    have HSZ := Lib.hid hB.size
    by_cases hql : q < n
    · obtain ⟨y, hy⟩ : ∃ y, l[q]? = some y := ⟨_, List.getElem?_eq_getElem (by rw [HLN.out]; exact hql)⟩
      obtain ⟨gR, rfl, hcell⟩ := HI.out.2 (by rw [List.length_map, HLN.out]; omega)
      have d1 := hcell q (y : Int) (by rw [List.getElem?_map, hy]; rfl)
      have HY := Lib.hid hy
      clear hO hB hRW hI hm hcell hy
      by_cases e : y = x
      · subst e
        have HF := Lib.hid (flt_no HY.out)
        go_wp2
        go_roundw
        case rel => exact ⟨q + 1, g, cap, by omega, by go_num, by rw [HF.out, HM.out], by rw [HF.out, HM.out]; exact HO.out, hg, HB.out⟩
        case measure => simp [intOf]; omega
      · have HF := Lib.hid (flt_yes HY.out e)
        have t1 : ((y : Int) != (x : Int)) = true := by simp; omega
        have t2 : (y != x) = true := by simp [e]
        have HIL := Lib.hid (show (idsV (flt (l.take q) x)).length = m by rw [idsV_len]; exact HM.out)
        clear e
        go_wp2_with (at_builtin; refine wpList_append_row1 wr wr.heap.size rfl rfl _ _ rfl _ (.int .i64 (y : Int)) (idsV (flt (l.take q) x)) m HIL.out rfl rfl rfl HO.out HSZ.out (by omega) ?_)
        intro g2 cap2 w2 ho hk hg2 hgl
        have HO2 := Lib.hid (show w2.ownsRow w.heap.size 3 1 (.slice (some ⟨g2, 0, none⟩) (m + 1) cap2) (m + 1) (idsV (flt (l.take (q + 1)) x)) from by
          have e : idsV (flt (l.take (q + 1)) x) = idsV (flt (l.take q) x) ++ [.int .i64 (y : Int)] := by rw [HF.out]; simp [idsV]
          have := ho.1
          rw [List.length_append, HIL.out] at this
          rw [e]; exact this)
        have HL2 := Lib.hid (show (flt (l.take (q + 1)) x).length = m + 1 by rw [HF.out, List.length_append, HM.out]; rfl)
        have HB2 := Lib.hid (HB.out.trans (hk.below HB.out.size (fun b hb e => absurd hb (by rw [own_eq e]; have := HSZ.out; omega))))
        have hg3 : w.heap.size ≤ g2 := by
          rcases hg2 with e | e
          · have : g2 = g := by simpa [Value.ownBlock] using e.symm
            omega
          · have := HSZ.out; omega
        clear ho hk hg2 hgl
        go_wp2
        go_roundw
        case rel => exact ⟨q + 1, g2, cap2, by omega, by go_num, by rw [HL2.out], by rw [HL2.out]; exact HO2.out, hg3, HB2.out⟩
        case measure => simp [intOf]; omega
    · obtain rfl : q = n := by omega
      have l0 := hRW.ar.loose t
      have hgl : g < wr.heap.size := by
        rcases hO.2 with ⟨e, _⟩ | ⟨g', c', cur, e, _, hh, _⟩
        · cases e
        · injection e with e1 e2 e3
          injection e1 with e1
          injection e1 with e1
          subst e1
          exact (Array.getElem?_eq_some_iff.1 hh).1
      have R1 := Lib.hid (show RDrop bR N (dropR R x) true w (.returned (.bool true)) (wr.setCell ⟨bR, t, none⟩ (.slice (some ⟨g, 0, none⟩) m cap)) from by
        rw [hm] at hO
        have e1 : l.take q = l := by rw [← HLN.out, List.take_length]
        have hst := hRW.set (l := flt l x) (i := t) (n := m) (cap := cap) (A := some ⟨g, 0, none⟩) ht (by rw [← e1]; exact hm) (by have := ints_of_owns hO hm; rw [e1] at this; exact this) (fun a e => by cases e; exact ⟨fun hn => by have := HNN.out g hn; omega, by show g ≠ bR; omega, hgl⟩) (by
          have t1 := tot_upd R t (flt l x) 64 ht
          rw [HLL.out] at t1
          have t2 := List.length_filter_le (fun y => decide (y ≠ x)) l
          have t3 : (flt l x).length = (l.filter fun y => decide (y ≠ x)).length := rfl
          have := H.out.le
          omega)
        refine ⟨_, rfl, hst.congr (fun j hj => ?_), Kept.setCell (F := fun b => b = bR) (Kept.of_below hB) (p := ⟨bR, t, none⟩) (.inl rfl) _⟩
        by_cases e : j = t
        · subst e; rw [upd_same]; show flt l x = flt (R j) x; rw [HLL.out]
        · rw [upd_other R _ e]
          exact (filter_not (fun hmx => e (HAP.out j t x hj ht hmx HX.out))).symm)
      clear hO hB hRW hI hm hgl
      go_wp2
      go_ret
      exact R1.out
theorem rDrop_no (bR : Nat) (N : Nat → Prop) (R : Nat → List Nat) (vs : List Value) (w : World) (h : RW w bR N R vs) (hap : ∀ i j x, i < 64 → j < 64 → x ∈ R i → x ∈ R j → i = j) (k : Int) (hx : ∀ i, i < 64 → ∀ x : Nat, x ∈ R i → (x : Int) ≠ k) :
    Calls Tryd.prog 23 #[.pointer (some ⟨bR, 0, none⟩), .int .i64 k] w fun e w' => e = .returned (.bool false) ∧ w = w' := by
  have HW := Lib.hid (rWhere_any bR N R vs w h k)
  have HWI := Lib.hid (show WhereAt R k (.int .i64 0) (.bool false) from .inr ⟨hx, rfl, rfl⟩)
  have HAP := Lib.hid hap
  clear h hap hx
  go_enter Tryd.func23, Tryd.ntmps23
  go_wp2_with fail
  refine HW.out.mono ?_
  rintro e w1 ⟨a, b, rfl, rfl, hwh⟩
  obtain ⟨rfl, rfl⟩ := hwh.one HAP.out HWI.out
  clear hwh HW HWI
  go_wp2
  go_ret
  exact ⟨rfl, rfl⟩
end Go.Proofs.YtknehglahdkafaaDoor
