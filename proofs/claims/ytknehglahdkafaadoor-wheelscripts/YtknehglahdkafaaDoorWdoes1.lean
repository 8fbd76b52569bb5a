/- One call of a wheel and of the document's own one: Drop, Where, Row, Empty, Next. -/
import Derived.Test.YtknehglahdkafaaDoorWdoes
namespace Go.Proofs.YtknehglahdkafaaDoor
open Go.ChangeShapes Go.WideShapes Go.ChangeAt Go.RowKit
set_option linter.unusedVariables false

theorem Own1.apart {B : Nat} {e : TypeId} {w : World} {A : Option Addr} {n c : Nat} {xs : List Value} (h : Own1 B e w (.slice A n c) xs) : ∀ a, A = some a → B ≤ a.block := fun a q => h.ge (b := a.block) (by rw [q]; rfl)
section
variable (bP bM bR : Nat) (R : Nat → List Nat) (vs : List Value) (w : World) (h : Both w bP bM bR R vs) (hn : tot R 64 ≤ 100) (s k : Int)
include h hn
set_option maxRecDepth 100000 in
theorem does_1 (hk : I64 k) : Calls Tryd.prog 10 #[.pointer (some ⟨bP, 0, none⟩), .pointer (some ⟨bR, 0, none⟩), .agg #[.int .i64 1, .int .i64 s, .int .i64 k]] w (Does bP bM bR R w) := by
  have hU := h.below ((Below.refl _ w).alloc (Nat.le_refl _) (.cells #[.int .i64 1, .int .i64 s, .int .i64 k] 33))
  have hD := hU.below (Below.refl _ _).drew
  have HD := Lib.hid hD
  have hlt := h.wh.lt
  have hlr := h.rw_.ar.lt
  have HX := Lib.hid (Has.made w 33 [.int .i64 1, .int .i64 s, .int .i64 k])
  have HXD := Lib.hid (show Has (w.alloc (.cells #[.int .i64 1, .int .i64 s, .int .i64 k] 33)).drew w.heap.size 33 [.int .i64 1, .int .i64 s, .int .i64 k] from HX.out)
  have HKU := Lib.hid (show Kept (tri bP bM bR) w (w.alloc (.cells #[.int .i64 1, .int .i64 s, .int .i64 k] 33)).drew from ((Kept.refl _ w).alloc _).drew)
  have x1 : (w.alloc (.cells #[.int .i64 1, .int .i64 s, .int .i64 k] 33)).cell? ⟨w.heap.size, 1, none⟩ = some (.int .i64 s) := HX.out.cell 1
  have x2 : (w.alloc (.cells #[.int .i64 1, .int .i64 s, .int .i64 k] 33)).cell? ⟨w.heap.size, 2, none⟩ = some (.int .i64 k) := HX.out.cell 2
  by_cases h0 : 0 ≤ k
  · obtain ⟨x, rfl⟩ := Int.eq_ofNat_of_zero_le h0
    obtain ⟨r, hr⟩ : ∃ r : Bool, r = true ↔ ∃ i, i < 64 ∧ x ∈ R i := by
      by_cases q : ∃ i, i < 64 ∧ x ∈ R i
      · exact ⟨true, by simp [q]⟩
      · exact ⟨false, by simp; exact fun i hi hx => q ⟨i, hi, hx⟩⟩
    have HC1 := Lib.hid (Drop_T bP bM R _ hD.wh x hk (by omega) r hr)
    have HRR := Lib.hid hr
    have HTT := Lib.hid (show tot (dropR R x) 64 ≤ tot R 64 + 1 from Nat.le_succ_of_le (dropR_tot R x 64))
    clear h hU hD h0 hr hk
    go_enter Tryd.func10, Tryd.ntmps10
    go_wp2_with fail
    go_region_held3 (fun w' => w'.cell? ⟨w.heap.size, 2, none⟩ = some (.int .i64 (x : Int))) (first | exact x2 | exact y2 | exact z2 | go_keep) (first | (go_at_call 16; refine HC1.out.mono ?_; rintro e w2 ⟨rfl, hW, hK⟩; have HW2 := Lib.hid hW; have hx2 := HXD.out.kept hK (fun e => by rcases e with e | e <;> omega); have y2 := hx2.cell 2; simp at y2; have HX2 := Lib.hid hx2; have HK2 := Lib.hid (tri_trans HKU.out (tri_two hK)); have hR2 := HD.out.rw_.kept hK; have HC2 := Lib.hid (rDrop_any bR (two bP bM) R vs w2 hR2 (fun b hb => by have := HK2.out.size; rcases hb with e | e <;> omega) HD.out.wh.ap x r HRR.out); clear hW hK hx2 hR2 HC1) | (go_at_call 23; refine HC2.out.mono ?_; rintro e w3 ⟨vs3, rfl, hR3, hK3⟩; have HB3 := Lib.hid (show Both w3 bP bM bR (dropR R x) vs3 from ⟨HW2.out.past hK3 HD.out.ne, hR3⟩); have HK3 := Lib.hid (tri_trans HK2.out (tri_ref hK3)); have hx3 := HX2.out.kept hK3 (by omega); have z2 := hx3.cell 2; simp at z2; clear hR3 hK3 hx3 HC2))
    have hbb : (r == r) = true := by simp
    go_wp2
    go_ret
    exact ⟨_, _, rfl, HB3.out, HK3.out, HTT.out⟩
  · have HNO := Lib.hid (show ∀ i, i < 64 → ∀ x : Nat, x ∈ R i → (x : Int) ≠ k from fun i hi x hx e => by omega)
    have HC1 := Lib.hid (Drop_neg bP bM R _ hD.wh k hk HNO.out)
    clear h hU hD h0 hk
    go_enter Tryd.func10, Tryd.ntmps10
    go_wp2_with fail
    go_region_held3 (fun w' => w'.cell? ⟨w.heap.size, 2, none⟩ = some (.int .i64 k)) (first | exact x2 | exact y2 | go_keep) (first | (go_at_call 16; refine HC1.out.mono ?_; rintro e w2 ⟨rfl, hb2⟩; have HB2 := Lib.hid (HD.out.below hb2); have HK2 := Lib.hid (tri_trans HKU.out (Kept.of_below hb2)); have hx2 := HXD.out.kept (F := fun _ => False) (Kept.of_below hb2) id; have y2 := hx2.cell 2; simp at y2; have HC2 := Lib.hid (rDrop_no bR (two bP bM) R vs w2 HB2.out.rw_ HD.out.wh.ap k HNO.out); clear hb2 hx2 HC1) | (go_at_call 23; refine HC2.out.mono ?_; rintro e w3 ⟨rfl, rfl⟩))
    go_wp2
    go_ret
    exact ⟨_, _, rfl, HB2.out, HK2.out, Nat.le_succ _⟩
omit hn in
set_option maxRecDepth 100000 in
theorem does_2 (hk : I64 k) : Calls Tryd.prog 10 #[.pointer (some ⟨bP, 0, none⟩), .pointer (some ⟨bR, 0, none⟩), .agg #[.int .i64 2, .int .i64 s, .int .i64 k]] w (Does bP bM bR R w) := by
  have hU := h.below ((Below.refl _ w).alloc (Nat.le_refl _) (.cells #[.int .i64 2, .int .i64 s, .int .i64 k] 33))
  have hD := hU
  have HD := Lib.hid hD
  have hlt := h.wh.lt
  have hlr := h.rw_.ar.lt
  have HX := Lib.hid (Has.made w 33 [.int .i64 2, .int .i64 s, .int .i64 k])
  have HXD := Lib.hid (show Has (w.alloc (.cells #[.int .i64 2, .int .i64 s, .int .i64 k] 33)) w.heap.size 33 [.int .i64 2, .int .i64 s, .int .i64 k] from HX.out)
  have HKU := Lib.hid (show Kept (tri bP bM bR) w (w.alloc (.cells #[.int .i64 2, .int .i64 s, .int .i64 k] 33)) from ((Kept.refl _ w).alloc _))
  have x1 : (w.alloc (.cells #[.int .i64 2, .int .i64 s, .int .i64 k] 33)).cell? ⟨w.heap.size, 1, none⟩ = some (.int .i64 s) := HX.out.cell 1
  have x2 : (w.alloc (.cells #[.int .i64 2, .int .i64 s, .int .i64 k] 33)).cell? ⟨w.heap.size, 2, none⟩ = some (.int .i64 k) := HX.out.cell 2
  have HC1 := Lib.hid (Where_W bP bM R _ hD.wh k hk)
  clear h hU hD hk
  go_enter Tryd.func10, Tryd.ntmps10
  go_wp2_with fail
  refine HC1.out.mono ?_
  rintro e w2 ⟨a, b, rfl, hb2, hw2⟩
  have HB2 := Lib.hid (HD.out.below hb2)
  have HK2 := Lib.hid (tri_trans HKU.out (Kept.of_below hb2))
  have hx2 := HXD.out.kept (F := fun _ => False) (Kept.of_below hb2) id
  have y2 := hx2.cell 2
  simp at y2
  have hbx := hx2.lt
  have HC2 := Lib.hid (rWhere_any bR (two bP bM) R vs w2 HB2.out.rw_ k)
  have HW2 := Lib.hid hw2
  clear hb2 hx2 HC1
  rcases hw2 with ⟨i, x, _, _, _, rfl, rfl⟩ | ⟨_, rfl, rfl⟩
  · go_wp2_with fail
    refine HC2.out.mono ?_
    rintro e w3 ⟨c, d, rfl, rfl, hw3⟩
    obtain ⟨rfl, rfl⟩ := HW2.out.one HD.out.wh.ap hw3
    clear hw3
    go_wp2
    go_ret
    exact ⟨_, _, rfl, HB2.out, HK2.out, Nat.le_succ _⟩
  · go_wp2_with fail
    refine HC2.out.mono ?_
    rintro e w3 ⟨c, d, rfl, rfl, hw3⟩
    obtain ⟨rfl, rfl⟩ := HW2.out.one HD.out.wh.ap hw3
    clear hw3
    go_wp2
    go_ret
    exact ⟨_, _, rfl, HB2.out, HK2.out, Nat.le_succ _⟩
omit hn in
set_option maxRecDepth 100000 in
theorem does_5 (hs : I64 s) (ht : TabW w) : Calls Tryd.prog 10 #[.pointer (some ⟨bP, 0, none⟩), .pointer (some ⟨bR, 0, none⟩), .agg #[.int .i64 5, .int .i64 s, .int .i64 k]] w (Does bP bM bR R w) := by
  have hU := h.below ((Below.refl _ w).alloc (Nat.le_refl _) (.cells #[.int .i64 5, .int .i64 s, .int .i64 k] 33))
  have hD := hU
  have HD := Lib.hid hD
  have hlt := h.wh.lt
  have hlr := h.rw_.ar.lt
  have HX := Lib.hid (Has.made w 33 [.int .i64 5, .int .i64 s, .int .i64 k])
  have HXD := Lib.hid (show Has (w.alloc (.cells #[.int .i64 5, .int .i64 s, .int .i64 k] 33)) w.heap.size 33 [.int .i64 5, .int .i64 s, .int .i64 k] from HX.out)
  have HKU := Lib.hid (show Kept (tri bP bM bR) w (w.alloc (.cells #[.int .i64 5, .int .i64 s, .int .i64 k] 33)) from ((Kept.refl _ w).alloc _))
  have x1 : (w.alloc (.cells #[.int .i64 5, .int .i64 s, .int .i64 k] 33)).cell? ⟨w.heap.size, 1, none⟩ = some (.int .i64 s) := HX.out.cell 1
  have x2 : (w.alloc (.cells #[.int .i64 5, .int .i64 s, .int .i64 k] 33)).cell? ⟨w.heap.size, 2, none⟩ = some (.int .i64 k) := HX.out.cell 2
  have HC1 := Lib.hid (Next_W bP bM R _ hD.wh s (ht.below ((Below.refl _ w).alloc (Nat.le_refl _) _)) hs)
  clear h hU hD hs ht
  go_enter Tryd.func10, Tryd.ntmps10
  go_wp2_with fail
  refine HC1.out.mono ?_
  rintro e w2 ⟨a, b, rfl, hb2, hw2⟩
  have HB2 := Lib.hid (HD.out.below hb2)
  have HK2 := Lib.hid (tri_trans HKU.out (Kept.of_below hb2))
  have hx2 := HXD.out.kept (F := fun _ => False) (Kept.of_below hb2) id
  have y1 := hx2.cell 1
  simp at y1
  have hbx := hx2.lt
  have HC2 := Lib.hid (rNext_any bR (two bP bM) R vs w2 HB2.out.rw_ s)
  have HW2 := Lib.hid hw2
  clear hb2 hx2 HC1
  rcases hw2 with ⟨i, _, _, _, _, rfl, rfl⟩ | ⟨_, rfl, rfl⟩
  · go_wp2_with fail
    refine HC2.out.mono ?_
    rintro e w3 ⟨c, d, rfl, rfl, hw3⟩
    obtain ⟨rfl, rfl⟩ := HW2.out.one hw3
    clear hw3
    go_wp2
    go_ret
    exact ⟨_, _, rfl, HB2.out, HK2.out, Nat.le_succ _⟩
  · go_wp2_with fail
    refine HC2.out.mono ?_
    rintro e w3 ⟨c, d, rfl, rfl, hw3⟩
    obtain ⟨rfl, rfl⟩ := HW2.out.one hw3
    clear hw3
    go_wp2
    go_ret
    exact ⟨_, _, rfl, HB2.out, HK2.out, Nat.le_succ _⟩
set_option maxRecDepth 100000 in
theorem does_3 : Calls Tryd.prog 10 #[.pointer (some ⟨bP, 0, none⟩), .pointer (some ⟨bR, 0, none⟩), .agg #[.int .i64 3, .int .i64 s, .int .i64 k]] w (Does bP bM bR R w) := by
  have hU := h.below ((Below.refl _ w).alloc (Nat.le_refl _) (.cells #[.int .i64 3, .int .i64 s, .int .i64 k] 33))
  have hD := hU.below (Below.refl _ _).drew
  have HD := Lib.hid hD
  have hlt := h.wh.lt
  have hlr := h.rw_.ar.lt
  have HX := Lib.hid (Has.made w 33 [.int .i64 3, .int .i64 s, .int .i64 k])
  have HXD := Lib.hid (show Has (w.alloc (.cells #[.int .i64 3, .int .i64 s, .int .i64 k] 33)).drew w.heap.size 33 [.int .i64 3, .int .i64 s, .int .i64 k] from HX.out)
  have HKU := Lib.hid (show Kept (tri bP bM bR) w (w.alloc (.cells #[.int .i64 3, .int .i64 s, .int .i64 k] 33)).drew from ((Kept.refl _ w).alloc _).drew)
  have x1 : (w.alloc (.cells #[.int .i64 3, .int .i64 s, .int .i64 k] 33)).cell? ⟨w.heap.size, 1, none⟩ = some (.int .i64 s) := HX.out.cell 1
  have x2 : (w.alloc (.cells #[.int .i64 3, .int .i64 s, .int .i64 k] 33)).cell? ⟨w.heap.size, 2, none⟩ = some (.int .i64 k) := HX.out.cell 2
  by_cases h0 : 0 ≤ s ∧ s < 64
  · obtain ⟨i, rfl⟩ := Int.eq_ofNat_of_zero_le h0.1
    have hi : i < 64 := by omega
    have HC1 := Lib.hid (Row_T bP bM R _ hD.wh i hi (by omega))
    have hrl : (R i).length ≤ 100 := Nat.le_trans (row_le R i 64 hi) hn
    clear h hU hD h0
    go_enter Tryd.func10, Tryd.ntmps10
    go_wp2_with fail
    go_region_held3 (fun w' => w'.cell? ⟨w.heap.size, 1, none⟩ = some (.int .i64 (i : Int))) (first | exact x1 | exact y1 | exact z1 | go_keep) (first | (go_at_call 19; refine HC1.out.mono ?_; rintro e w6 ⟨v2, rfl, hO2, hb2⟩; obtain ⟨A2, c2, e2, hI2⟩ := hO2.ints; subst e2; have HI2 := Lib.hid hI2; have HB6 := Lib.hid (HD.out.below hb2); have HK6 := Lib.hid (tri_trans HKU.out (Kept.of_below hb2)); have hx2 := HXD.out.kept (F := fun _ => False) (Kept.of_below hb2) id; have y1 := hx2.cell 1; simp at y1; have y6 := y1; have HC2 := Lib.hid (rRow_in bR (two bP bM) R vs w6 HB6.out.rw_ i hi); clear hb2 hx2 hO2 hI2 HC1) | (go_at_call 25; refine HC2.out.mono ?_; rintro e w3 ⟨A3, c3, rfl, rfl, hI3, hA3⟩; have HIY := Lib.hid (show Calls Tryd.prog 21 #[.slice A2 (R i).length c2, .slice A3 (R i).length c3] w6 _ from by have q := Ints_yes A2 A3 c2 c3 ((R i).map fun (x : Nat) => (x : Int)) w6 HI2.out hI3 (by rw [List.length_map]; omega); rw [List.length_map] at q; exact q); clear hI3 hA3 HC2) | (go_at_call 21; refine HIY.out.mono ?_; rintro e w7 ⟨rfl, m7, rfl⟩; have hd7 : Below w6.heap.size w6 (w6.drewN m7) := ⟨rfl, rfl, rfl, Nat.le_refl _, fun _ _ => rfl⟩; have HB7 := Lib.hid (HB6.out.below hd7); have HK7 := Lib.hid (HK6.out.drewN m7); have z1 : (w6.drewN m7).cell? ⟨w.heap.size, 1, none⟩ = some (.int .i64 (i : Int)) := y6; clear hd7 HIY))
    go_wp2
    go_ret
    exact ⟨_, _, rfl, HB7.out, HK7.out, Nat.le_succ _⟩
  · have HC1 := Lib.hid (Row_no bP bM R _ hD.wh s h0)
    have HC2 := Lib.hid (fun u => rRow_out bR u s h0)
    clear h hU hD h0
    go_enter Tryd.func10, Tryd.ntmps10
    go_wp2_with fail
    go_region_held3 (fun w' => w'.cell? ⟨w.heap.size, 1, none⟩ = some (.int .i64 s)) (first | exact x1 | exact y1 | exact z1 | go_keep) (first | (go_at_call 19; refine HC1.out.mono ?_; rintro e w6 ⟨v2, rfl, hO2, hb2⟩; obtain ⟨A2, c2, e2, hI2⟩ := hO2.ints; subst e2; have HI2 := Lib.hid hI2; have HB6 := Lib.hid (HD.out.below hb2); have HK6 := Lib.hid (tri_trans HKU.out (Kept.of_below hb2)); have hx2 := HXD.out.kept (F := fun _ => False) (Kept.of_below hb2) id; have y1 := hx2.cell 1; simp at y1; have y6 := y1; clear hb2 hx2 hO2 hI2 HC1) | (go_at_call 25; refine (HC2.out _).mono ?_; rintro e w3 ⟨rfl, rfl⟩; have HIY := Lib.hid (Ints_yes A2 none c2 0 [] w6 HI2.out ⟨Nat.zero_le _, fun h => by simp at h⟩ (by simp)); clear HC2) | (go_at_call 21; refine HIY.out.mono ?_; rintro e w7 ⟨rfl, m7, rfl⟩; have hd7 : Below w6.heap.size w6 (w6.drewN m7) := ⟨rfl, rfl, rfl, Nat.le_refl _, fun _ _ => rfl⟩; have HB7 := Lib.hid (HB6.out.below hd7); have HK7 := Lib.hid (HK6.out.drewN m7); have z1 : (w6.drewN m7).cell? ⟨w.heap.size, 1, none⟩ = some (.int .i64 s) := y6; clear hd7 HIY))
    go_wp2
    go_ret
    exact ⟨_, _, rfl, HB7.out, HK7.out, Nat.le_succ _⟩
end
end Go.Proofs.YtknehglahdkafaaDoor
