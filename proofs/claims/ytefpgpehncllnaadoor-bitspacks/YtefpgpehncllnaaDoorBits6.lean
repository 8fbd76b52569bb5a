/- The contract of sandglasslaw01.live: it returns true. -/
import Derived.Test.YtefpgpehncllnaaDoorBits5
namespace Go.Proofs.YtefpgpehncllnaaDoor
open Go.ChangeShapes Go.WideShapes Go.ChangeAt Go.RowKit
set_option linter.unusedVariables false

theorem has_get (kd : IntKind) (l : List Int) (i : Nat) (h : i < l.length) : (l.map (Value.int kd))[i]? = some (.int kd (l.getD i 0)) := by
  rw [List.getElem?_map, List.getD_eq_getElem?_getD, List.getElem?_eq_getElem h]; rfl
theorem ints_has {W : World} {g : Nat} (l : List Int) (h : Has W g 3 (l.map (Value.int .i64))) : Ints W (some ⟨g, 0, none⟩) l.length l :=
  ⟨rfl, fun _ => ⟨g, 0, rfl, h.lt, fun i hi => by rw [Nat.zero_add, h.cell, has_get _ _ _ hi]⟩⟩
theorem words_has {W : World} {g : Nat} (l : List Nat) (h : Has W g 24 (l.map fun (x : Nat) => Value.int .u64 (x : Int))) (ha : AllW l) : Words W (some ⟨g, 0, none⟩) l.length l :=
  ⟨rfl, ha, fun _ => ⟨g, 0, rfl, h.lt, fun i hi => by
    rw [Nat.zero_add, h.cell, List.getElem?_map, List.getD_eq_getElem?_getD, List.getElem?_eq_getElem hi]; rfl⟩⟩
theorem Fresh.pos {B : Nat} {w' : World} {A : Option Addr} {len cap : Nat} {ns : List Nat} (h : Fresh B w' A len cap ns) (hl : 0 < len) : ∃ g, A = some ⟨g, 0, none⟩ ∧ B ≤ g ∧ OwnW w' g len ns ∧ len ≤ cap := by
  obtain ⟨h1, _, _, h4⟩ := h
  rcases h4 with ⟨_, h4⟩ | ⟨g, e, h5, h6⟩
  · omega
  · exact ⟨g, e, h5, h6, h1⟩

theorem ok48 : WOk [4, 8] [4, 8] := ⟨by decide, by decide, fun i hi => by match i, hi with | 0, _ => exact ⟨rfl, by decide⟩ | 1, _ => exact ⟨rfl, by decide⟩⟩
theorem ok4 : WOk [4] [4] := ⟨by decide, by decide, fun i hi => by match i, hi with | 0, _ => exact ⟨rfl, by decide⟩⟩
theorem v1 : packAt ((psum [4, 8] 2 + 63) / 64) [4, 8] [5, 255] 2 = [4085] := by decide +kernel
theorem v2 : upTo 2 [4, 8] [4085] 2 = [5, 255] := by decide +kernel
theorem v3 : nextN [4085] (psum [4, 8] 2) = (0, false) := by decide +kernel
theorem v4 : setW [0, 0] 60 8 171 = [12682136550675316736, 10] := by decide +kernel
theorem v5 : fld [12682136550675316736, 10] 60 8 = 171 := by decide +kernel
theorem v6 : nextN [12682136550675316736, 10] 62 = (63, true) := by decide +kernel
theorem v7 : nextN [12682136550675316736, 10] 68 = (0, false) := by decide +kernel
theorem v8 : cnt [12682136550675316736, 10] (64 * 2) = 5 := by decide +kernel

theorem p1 (W : World) : Calls Tryd.prog 20 #[.slice (some ⟨W.heap.size, 0, none⟩) 2 2, .slice (some ⟨W.heap.size + 1, 0, none⟩) 2 2] ((W.alloc (.cells #[.int .i64 4, .int .i64 8] 3)).alloc (.cells #[.int .u64 5, .int .u64 255] 24))
    (SetTold 1 [4085] ((W.alloc (.cells #[.int .i64 4, .int .i64 8] 3)).alloc (.cells #[.int .u64 5, .int .u64 255] 24))) := by
  have h1 : Ints ((W.alloc (.cells #[.int .i64 4, .int .i64 8] 3)).alloc (.cells #[.int .u64 5, .int .u64 255] 24)) (some ⟨W.heap.size, 0, none⟩) 2 [4, 8] :=
    ints_has [4, 8] ((Has.made W 3 [.int .i64 4, .int .i64 8]).alloc _)
  have h2 : Words ((W.alloc (.cells #[.int .i64 4, .int .i64 8] 3)).alloc (.cells #[.int .u64 5, .int .u64 255] 24)) (some ⟨W.heap.size + 1, 0, none⟩) 2 [5, 255] := by
    have := Has.made (W.alloc (.cells #[.int .i64 4, .int .i64 8] 3)) 24 [.int .u64 5, .int .u64 255]
    rw [show (W.alloc (.cells #[.int .i64 4, .int .i64 8] 3)).heap.size = W.heap.size + 1 by simp] at this
    exact words_has [5, 255] this (by intro x hx; simp at hx; omega)
  have := Pack_yes _ _ 2 2 2 [4, 8] [4, 8] [5, 255] _ (by omega) (by omega) h1 h2 ok48 (by intro i hi; match i, hi with | 0, _ => decide | 1, _ => decide)
  rw [v1] at this
  exact this
theorem p2 (W : World) (g : Nat) (cap : Nat) (hc : 1 ≤ cap) (ho : OwnW W g 1 [4085]) (ht : TabW W) : Calls Tryd.prog 22 #[.slice (some ⟨W.heap.size, 0, none⟩) 2 2, .slice (some ⟨g, 0, none⟩) 1 cap] (W.alloc (.cells #[.int .i64 4, .int .i64 8] 3))
    (SetTold 2 [5, 255] (W.alloc (.cells #[.int .i64 4, .int .i64 8] 3))) := by
  have hb : Below W.heap.size W (W.alloc (.cells #[.int .i64 4, .int .i64 8] 3)) := (Below.refl _ _).alloc (Nat.le_refl _) _
  have := Unpack_yes _ _ 2 2 1 cap [4, 8] [4, 8] [4085] _ (by omega) hc (ints_has [4, 8] (Has.made W 3 [.int .i64 4, .int .i64 8])) (ho.words.below hb) ok48 (ht.below hb) (by decide) v3
  rw [v2] at this
  exact this
theorem p3 (W : World) : Calls Tryd.prog 20 #[.slice (some ⟨W.heap.size, 0, none⟩) 1 1, .slice (some ⟨W.heap.size + 1, 0, none⟩) 1 1] ((W.alloc (.cells #[.int .i64 4] 3)).alloc (.cells #[.int .u64 16] 24))
    (NoneTold ((W.alloc (.cells #[.int .i64 4] 3)).alloc (.cells #[.int .u64 16] 24))) := by
  have h1 : Ints ((W.alloc (.cells #[.int .i64 4] 3)).alloc (.cells #[.int .u64 16] 24)) (some ⟨W.heap.size, 0, none⟩) 1 [4] :=
    ints_has [4] ((Has.made W 3 [.int .i64 4]).alloc _)
  have h2 : Words ((W.alloc (.cells #[.int .i64 4] 3)).alloc (.cells #[.int .u64 16] 24)) (some ⟨W.heap.size + 1, 0, none⟩) 1 [16] := by
    have := Has.made (W.alloc (.cells #[.int .i64 4] 3)) 24 [.int .u64 16]
    rw [show (W.alloc (.cells #[.int .i64 4] 3)).heap.size = W.heap.size + 1 by simp] at this
    exact words_has [16] this (by intro x hx; simp at hx; omega)
  exact Pack_over _ _ 1 1 1 0 [4] [4] [16] _ (by omega) (by omega) h1 h2 ok4 (by omega) (by decide) (by intro j hj; omega)
theorem p4 (W : World) : Calls Tryd.prog 13 #[.slice (some ⟨W.heap.size, 0, none⟩) 2 2, .int .i64 60, .int .i64 8, .int .u64 171] (W.alloc (.cells #[.int .u64 0, .int .u64 0] 24))
    (SetTold 2 [12682136550675316736, 10] (W.alloc (.cells #[.int .u64 0, .int .u64 0] 24))) := by
  have := Set_yes (some ⟨W.heap.size, 0, none⟩) 2 2 [0, 0] 60 8 171 (W.alloc (.cells #[.int .u64 0, .int .u64 0] 24)) (by omega) (words_has [0, 0] (Has.made W 24 [.int .u64 0, .int .u64 0]) (by intro x hx; simp at hx; omega)) (by omega) (by omega) (by decide)
  rw [v4] at this
  exact this

set_option maxRecDepth 100000 in
set_option maxHeartbeats 1000000 in
theorem live_any (w : World) (ht : TabW w) : Calls Tryd.prog 10 #[] w fun e w' => e = .returned (.bool true) ∧ Below w.heap.size w w' := by
  have HT := Lib.hid ht
  clear ht
  go_enter Tryd.func10, Tryd.ntmps10
  go_wp2_with fail
  refine (p1 _).mono ?_
  rintro e w1 ⟨A1, c1, rfl, f1, b1⟩
  obtain ⟨g1, rfl, _, o1, hc1⟩ := f1.pos (by omega)
  have B1 : Hid (Below w.heap.size w w1) := (((Below.refl _ _).alloc (Nat.le_refl _) _).alloc (by simp) _).trans (b1.mono (by simp; omega))
  have T1 := Lib.hid (HT.out.below B1.out)
  have O1 := Lib.hid o1
  clear f1 b1 o1
  go_wp2_with fail
  refine (p2 w1 g1 c1 hc1 O1.out T1.out).mono ?_
  rintro e w2 ⟨A2, c2, rfl, f2, b2⟩
  obtain ⟨g2, rfl, _, o2, hc2⟩ := f2.pos (by omega)
  have B2 : Hid (Below w1.heap.size w1 w2) := ((Below.refl _ _).alloc (Nat.le_refl _) _).trans (b2.mono (by simp))
  have T2 := Lib.hid (T1.out.below B2.out)
  have P1 := Lib.hid (O1.out.below B2.out O1.out.lt)
  have O2 := Lib.hid o2
  clear f2 b2 o2
  go_wp2_with fail
  refine (p3 w2).mono ?_
  rintro e w3 ⟨rfl, b3⟩
  have B3 : Hid (Below w2.heap.size w2 w3) := (((Below.refl _ _).alloc (Nat.le_refl _) _).alloc (by simp) _).trans (b3.mono (by simp; omega))
  have T3 := Lib.hid (T2.out.below B3.out)
  have Q1 := Lib.hid (P1.out.below B3.out P1.out.lt)
  have P2 := Lib.hid (O2.out.below B3.out O2.out.lt)
  clear b3
  go_wp2_with fail
  refine (p4 w3).mono ?_
  rintro e w4 ⟨A4, c4, rfl, f4, b4⟩
  obtain ⟨g4, rfl, _, o4, hc4⟩ := f4.pos (by omega)
  have B4 : Hid (Below w3.heap.size w3 w4) := ((Below.refl _ _).alloc (Nat.le_refl _) _).trans (b4.mono (by simp))
  have T4 := Lib.hid (T3.out.below B4.out)
  have R1 := Lib.hid (Q1.out.below B4.out Q1.out.lt)
  have Q2 := Lib.hid (P2.out.below B4.out P2.out.lt)
  have O4 := Lib.hid o4
  clear f4 b4 o4
  have G1 := Lib.hid (Get_yes _ 2 c4 _ 60 8 w4 (by omega) hc4 O4.out.words (by omega) (by omega))
  rw [v5] at G1
  have N1 := Lib.hid (Next_nat _ 2 c4 _ 62 w4 (by omega) hc4 O4.out.words T4.out (by omega))
  rw [v6] at N1
  have N2 := Lib.hid (Next_nat _ 2 c4 _ 68 w4 (by omega) hc4 O4.out.words T4.out (by omega))
  rw [v7] at N2
  have CC := Lib.hid (Count_any _ 2 c4 _ w4 (by omega) hc4 O4.out.words)
  rw [v8] at CC
  go_wp2_with fail
  refine G1.out.mono ?_
  rintro e w' ⟨rfl, rfl⟩
  go_wp2_with fail
  refine (Get_no _ 2 c4 121 8 _ (by omega) (by unfold InField; omega)).mono ?_
  rintro e w' ⟨rfl, rfl⟩
  go_wp2_with fail
  refine N1.out.mono ?_
  rintro e w' ⟨rfl, rfl⟩
  go_wp2_with fail
  refine N2.out.mono ?_
  rintro e w' ⟨rfl, rfl⟩
  have d1 : w4.cell? ⟨g1, 0, none⟩ = some (.int .u64 4085) := R1.out.cell (by omega)
  have d2 : w4.cell? ⟨g2, 1, none⟩ = some (.int .u64 255) := Q2.out.cell (by omega)
  have d3 : w4.cell? ⟨g4, 0, none⟩ = some (.int .u64 12682136550675316736) := O4.out.cell (by omega)
  have d4 : w4.cell? ⟨g4, 1, none⟩ = some (.int .u64 10) := O4.out.cell (by omega)
  have BB : Hid (Below w.heap.size w w4) := ((B1.out.trans (B2.out.mono B1.out.size)).trans (B3.out.mono (Nat.le_trans B1.out.size B2.out.size))).trans (B4.out.mono (Nat.le_trans (Nat.le_trans B1.out.size B2.out.size) B3.out.size))
  go_wp2_with fail
  refine CC.out.mono ?_
  rintro e w' ⟨rfl, rfl⟩
  go_wp2
  go_ret
  exact ⟨rfl, BB.out⟩
end Go.Proofs.YtefpgpehncllnaaDoor
