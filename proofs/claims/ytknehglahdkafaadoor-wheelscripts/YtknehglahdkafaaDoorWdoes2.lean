/- One call of a wheel and of the document's own one: Empty, and no call. -/
import Derived.Test.YtknehglahdkafaaDoorWdoes1
namespace Go.Proofs.YtknehglahdkafaaDoor
open Go.ChangeShapes Go.WideShapes Go.ChangeAt Go.RowKit
set_option linter.unusedVariables false

section
variable (bP bM bR : Nat) (R : Nat → List Nat) (vs : List Value) (w : World) (h : Both w bP bM bR R vs) (hn : tot R 64 ≤ 100) (s k : Int)
include h
include hn in
set_option maxRecDepth 100000 in
theorem does_4 : Calls Tryd.prog 10 #[.pointer (some ⟨bP, 0, none⟩), .pointer (some ⟨bR, 0, none⟩), .agg #[.int .i64 4, .int .i64 s, .int .i64 k]] w (Does bP bM bR R w) := by
  have hU := h.below ((Below.refl _ w).alloc (Nat.le_refl _) (.cells #[.int .i64 4, .int .i64 s, .int .i64 k] 33))
  have hD := hU.below (Below.refl _ _).drew
  have HD := Lib.hid hD
  have hlt := h.wh.lt
  have hlr := h.rw_.ar.lt
  have HX := Lib.hid (Has.made w 33 [.int .i64 4, .int .i64 s, .int .i64 k])
  have HXD := Lib.hid (show Has (w.alloc (.cells #[.int .i64 4, .int .i64 s, .int .i64 k] 33)).drew w.heap.size 33 [.int .i64 4, .int .i64 s, .int .i64 k] from HX.out)
  have HKU := Lib.hid (show Kept (tri bP bM bR) w (w.alloc (.cells #[.int .i64 4, .int .i64 s, .int .i64 k] 33)).drew from ((Kept.refl _ w).alloc _).drew)
  have x1 : (w.alloc (.cells #[.int .i64 4, .int .i64 s, .int .i64 k] 33)).cell? ⟨w.heap.size, 1, none⟩ = some (.int .i64 s) := HX.out.cell 1
  have x2 : (w.alloc (.cells #[.int .i64 4, .int .i64 s, .int .i64 k] 33)).cell? ⟨w.heap.size, 2, none⟩ = some (.int .i64 k) := HX.out.cell 2
  by_cases h0 : 0 ≤ s ∧ s < 64
  · obtain ⟨i, rfl⟩ := Int.eq_ofNat_of_zero_le h0.1
    have hi : i < 64 := by omega
    have HC1 := Lib.hid (Empty_T bP bM R _ hD.wh i hi (by omega))
    have hrl : (R i).length ≤ 100 := Nat.le_trans (row_le R i 64 hi) hn
    have HTT := Lib.hid (show tot (upd R i []) 64 ≤ tot R 64 + 1 by have := tot_upd R i [] 64 hi; simp at this; omega)
    have HSU := Lib.hid (show bR < (w.alloc (.cells #[.int .i64 4, .int .i64 (i : Int), .int .i64 k] 33)).drew.heap.size from hD.rw_.ar.lt)
    clear h hU hD h0
    go_enter Tryd.func10, Tryd.ntmps10
    go_wp2_with fail
    go_region_held3 (fun w' => w'.cell? ⟨w.heap.size, 1, none⟩ = some (.int .i64 (i : Int))) (first | exact x1 | exact y1 | exact y6 | exact z1 | go_keep) (first | (go_at_call 17; refine HC1.out.mono ?_; rintro e w2 ⟨v2, rfl, hO2, hW2, hK2⟩; obtain ⟨A2, c2, e2, hI2⟩ := hO2.ints; subst e2; have HAA := Lib.hid (show ∀ a, A2 = some a → a.block ≠ bR from fun a q => by have h1 := hO2.apart a q; have h2 := HSU.out; omega); have HI2 := Lib.hid hI2; have HW2 := Lib.hid hW2; have HK2 := Lib.hid (tri_trans HKU.out (tri_two hK2)); have hx2 := HXD.out.kept hK2 (fun e => by rcases e with e | e <;> omega); have y1 := hx2.cell 1; simp at y1; have HX2 := Lib.hid hx2; have hR2 := HD.out.rw_.kept hK2; have HC2 := Lib.hid (rEmpty_in bR (two bP bM) R vs w2 hR2 i hi); clear hK2 hx2 hO2 hI2 hW2 hR2 HC1) | (go_at_call 26; refine HC2.out.mono ?_; rintro e w6 ⟨A3, c3, vs3, rfl, hI3, hR3, hK3, hz3, hA3⟩; have HB6 := Lib.hid (show Both w6 bP bM bR (upd R i []) vs3 from ⟨HW2.out.past hK3 HD.out.ne, hR3⟩); have HK6 := Lib.hid (tri_trans HK2.out (tri_ref hK3)); have hx3 := HX2.out.kept hK3 (by omega); have y6 := hx3.cell 1; simp at y6; have HIY := Lib.hid (show Calls Tryd.prog 21 #[.slice A2 (R i).length c2, .slice A3 (R i).length c3] w6 _ from by have q := Ints_yes A2 A3 c2 c3 ((R i).map fun (x : Nat) => (x : Int)) w6 (HI2.out.kept hK3 (fun a e => HAA.out a e)) hI3 (by rw [List.length_map]; omega); rw [List.length_map] at q; exact q); clear hI3 hA3 hR3 hK3 hz3 hx3 HC2) | (go_at_call 21; refine HIY.out.mono ?_; rintro e w7 ⟨rfl, m7, rfl⟩; have hd7 : Below w6.heap.size w6 (w6.drewN m7) := ⟨rfl, rfl, rfl, Nat.le_refl _, fun _ _ => rfl⟩; have HB7 := Lib.hid (HB6.out.below hd7); have HK7 := Lib.hid (HK6.out.drewN m7); have z1 : (w6.drewN m7).cell? ⟨w.heap.size, 1, none⟩ = some (.int .i64 (i : Int)) := y6; clear hd7 HIY))
    go_wp2
    go_ret
    exact ⟨_, _, rfl, HB7.out, HK7.out, HTT.out⟩
  · have HC1 := Lib.hid (Empty_no bP bM R _ hD.wh s h0 (by omega))
    have HC2 := Lib.hid (fun u => rEmpty_out bR u s h0)
    clear h hU hD h0
    go_enter Tryd.func10, Tryd.ntmps10
    go_wp2_with fail
    go_region_held3 (fun w' => w'.cell? ⟨w.heap.size, 1, none⟩ = some (.int .i64 s)) (first | exact x1 | exact y1 | exact z1 | go_keep) (first | (go_at_call 17; refine HC1.out.mono ?_; rintro e w6 ⟨v2, rfl, hO2, hW2, hK2⟩; obtain ⟨A2, c2, e2, hI2⟩ := hO2.ints; subst e2; have HI2 := Lib.hid hI2; have HB6 := Lib.hid (show Both w6 bP bM bR R vs from ⟨hW2, HD.out.rw_.kept hK2⟩); have HK6 := Lib.hid (tri_trans HKU.out (tri_two hK2)); have hx2 := HXD.out.kept hK2 (fun e => by rcases e with e | e <;> omega); have y1 := hx2.cell 1; simp at y1; have y6 := y1; clear hK2 hx2 hO2 hI2 hW2 HC1) | (go_at_call 26; refine (HC2.out _).mono ?_; rintro e w3 ⟨rfl, rfl⟩; have HIY := Lib.hid (Ints_yes A2 none c2 0 [] w6 HI2.out ⟨Nat.zero_le _, fun h => by simp at h⟩ (by simp)); clear HC2) | (go_at_call 21; refine HIY.out.mono ?_; rintro e w7 ⟨rfl, m7, rfl⟩; have hd7 : Below w6.heap.size w6 (w6.drewN m7) := ⟨rfl, rfl, rfl, Nat.le_refl _, fun _ _ => rfl⟩; have HB7 := Lib.hid (HB6.out.below hd7); have HK7 := Lib.hid (HK6.out.drewN m7); have z1 : (w6.drewN m7).cell? ⟨w.heap.size, 1, none⟩ = some (.int .i64 s) := y6; clear hd7 HIY))
    go_wp2
    go_ret
    exact ⟨_, _, rfl, HB7.out, HK7.out, Nat.le_succ _⟩
set_option maxRecDepth 100000 in
theorem does_d (d : Int) (q0 : d ≠ 0) (q1 : d ≠ 1) (q2 : d ≠ 2) (q3 : d ≠ 3) (q4 : d ≠ 4) (q5 : d ≠ 5) : Calls Tryd.prog 10 #[.pointer (some ⟨bP, 0, none⟩), .pointer (some ⟨bR, 0, none⟩), .agg #[.int .i64 d, .int .i64 s, .int .i64 k]] w (Does bP bM bR R w) := by
  have hU := h.below ((Below.refl _ w).alloc (Nat.le_refl _) (.cells #[.int .i64 d, .int .i64 s, .int .i64 k] 33))
  have hD := hU
  have HD := Lib.hid hD
  have hlt := h.wh.lt
  have hlr := h.rw_.ar.lt
  have HX := Lib.hid (Has.made w 33 [.int .i64 d, .int .i64 s, .int .i64 k])
  have HXD := Lib.hid (show Has (w.alloc (.cells #[.int .i64 d, .int .i64 s, .int .i64 k] 33)) w.heap.size 33 [.int .i64 d, .int .i64 s, .int .i64 k] from HX.out)
  have HKU := Lib.hid (show Kept (tri bP bM bR) w (w.alloc (.cells #[.int .i64 d, .int .i64 s, .int .i64 k] 33)) from ((Kept.refl _ w).alloc _))
  have x1 : (w.alloc (.cells #[.int .i64 d, .int .i64 s, .int .i64 k] 33)).cell? ⟨w.heap.size, 1, none⟩ = some (.int .i64 s) := HX.out.cell 1
  have x2 : (w.alloc (.cells #[.int .i64 d, .int .i64 s, .int .i64 k] 33)).cell? ⟨w.heap.size, 2, none⟩ = some (.int .i64 k) := HX.out.cell 2
  have t0 : (d == 0) = false := by simp [q0]
  have t1 : (d == 1) = false := by simp [q1]
  have t2 : (d == 2) = false := by simp [q2]
  have t3 : (d == 3) = false := by simp [q3]
  have t4 : (d == 4) = false := by simp [q4]
  have t5 : (d == 5) = false := by simp [q5]
  clear h hU hD q0 q1 q2 q3 q4 q5
  go_enter Tryd.func10, Tryd.ntmps10
  go_wp2
  go_ret
  exact ⟨_, _, rfl, HD.out, HKU.out, Nat.le_succ _⟩
include hn in
theorem does_any (d : Int) (hs : I64 s) (hk : I64 k) (ht : TabW w) : Calls Tryd.prog 10 #[.pointer (some ⟨bP, 0, none⟩), .pointer (some ⟨bR, 0, none⟩), .agg #[.int .i64 d, .int .i64 s, .int .i64 k]] w (Does bP bM bR R w) := by
  by_cases q0 : d = 0
  · subst q0; exact does_0 bP bM bR R vs w h hn s k
  by_cases q1 : d = 1
  · subst q1; exact does_1 bP bM bR R vs w h hn s k hk
  by_cases q2 : d = 2
  · subst q2; exact does_2 bP bM bR R vs w h s k hk
  by_cases q3 : d = 3
  · subst q3; exact does_3 bP bM bR R vs w h hn s k
  by_cases q4 : d = 4
  · subst q4; exact does_4 bP bM bR R vs w h hn s k
  by_cases q5 : d = 5
  · subst q5; exact does_5 bP bM bR R vs w h s k hs ht
  exact does_d bP bM bR R vs w h s k d q0 q1 q2 q3 q4 q5
end
end Go.Proofs.YtknehglahdkafaaDoor
