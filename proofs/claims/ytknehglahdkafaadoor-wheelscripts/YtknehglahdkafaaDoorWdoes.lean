/- One call of a wheel and of the document's own one. -/
import Derived.Test.YtknehglahdkafaaDoorWref4
import Derived.Deep.RegionHeld3
namespace Go.Proofs.YtknehglahdkafaaDoor
open Go.ChangeShapes Go.WideShapes Go.ChangeAt Go.RowKit
set_option linter.unusedVariables false

/-- A wheel and the document's one, of the same rows. -/
structure Both (w : World) (bP bM bR : Nat) (R : Nat → List Nat) (vs : List Value) : Prop where
  wh : Wh w bP bM R
  rw_ : RW w bR (two bP bM) R vs
def tri (bP bM bR b : Nat) : Prop := b = bP ∨ b = bM ∨ b = bR
section
variable {w w' : World} {bP bM bR : Nat} {R R' : Nat → List Nat} {vs vs' : List Value}
theorem Both.below (h : Both w bP bM bR R vs) (hb : Below w.heap.size w w') : Both w' bP bM bR R vs := ⟨h.wh.below hb, h.rw_.below hb⟩
theorem Both.ne (h : Both w bP bM bR R vs) : bR ≠ bP ∧ bR ≠ bM := ⟨fun e => h.rw_.nb (.inl e), fun e => h.rw_.nb (.inr e)⟩
theorem Both.nlt (h : Both w bP bM bR R vs) : ∀ b, two bP bM b → b < w.heap.size := fun b hb => by
  have := h.wh.lt
  rcases hb with e | e <;> omega
theorem tri_two (h : Kept (two bP bM) w w') : Kept (tri bP bM bR) w w' := h.mono (fun b _ e => e.elim .inl (fun e => .inr (.inl e)))
theorem tri_ref (h : Kept (fun b => b = bR) w w') : Kept (tri bP bM bR) w w' := h.mono (fun b _ e => .inr (.inr e))
theorem tri_trans {a b c : World} (h : Kept (tri bP bM bR) a b) (k : Kept (tri bP bM bR) b c) : Kept (tri bP bM bR) a c := h.trans k (fun _ e => .inl e)
theorem Wh.past (h : Wh w bP bM R) (hk : Kept (fun b => b = bR) w w') (hn : bR ≠ bP ∧ bR ≠ bM) : Wh w' bP bM R := h.kept hk (fun e => hn.1 e.symm) (fun e => hn.2 e.symm)
end
/-- What does tells. -/
def Does (bP bM bR : Nat) (R : Nat → List Nat) (w : World) (e : Ending) (w' : World) : Prop :=
  ∃ R' vs', e = .returned (.bool true) ∧ Both w' bP bM bR R' vs' ∧ Kept (tri bP bM bR) w w' ∧ tot R' 64 ≤ tot R 64 + 1
theorem Where_W (bP bM : Nat) (R : Nat → List Nat) (w : World) (h : Wh w bP bM R) (k : Int) (hk : I64 k) : Calls Tryd.prog 20 #[.pointer (some ⟨bP, 0, none⟩), .int .i64 k] w fun e w' => ∃ a b, e = .returned (.tuple #[a, b]) ∧ Below w.heap.size w w' ∧ WhereAt R k a b := by
  by_cases q : ∃ i x : Nat, i < 64 ∧ x ∈ R i ∧ (x : Int) = k
  · obtain ⟨i, x, hi, hx, rfl⟩ := q
    exact (Where_yes bP bM R w h i x hi hx).mono fun e w' ⟨h1, h2⟩ => ⟨_, _, h1, h2, .inl ⟨i, x, hi, hx, rfl, rfl, rfl⟩⟩
  · have q2 : ∀ i, i < 64 → ∀ x : Nat, x ∈ R i → (x : Int) ≠ k := fun i hi x hx e => q ⟨i, x, hi, hx, e⟩
    exact (Where_no bP bM R w h k hk q2).mono fun e w' ⟨h1, h2⟩ => ⟨_, _, h1, h2, .inr ⟨q2, rfl, rfl⟩⟩
theorem Next_W (bP bM : Nat) (R : Nat → List Nat) (w : World) (h : Wh w bP bM R) (k : Int) (ht : TabW w) (hk : I64 k) : Calls Tryd.prog 18 #[.pointer (some ⟨bP, 0, none⟩), .int .i64 k] w fun e w' => ∃ a b, e = .returned (.tuple #[a, b]) ∧ Below w.heap.size w w' ∧ NextAt R k.toNat a b := by
  obtain ⟨m, _, hm2, hm3⟩ := Next_T bP bM R w h k ht hk
  exact hm3.mono fun e w' ⟨h1, h2⟩ => ⟨_, _, h1, h2, next_at hm2 _⟩
section
variable (bP bM bR : Nat) (R : Nat → List Nat) (vs : List Value) (w : World) (h : Both w bP bM bR R vs) (hn : tot R 64 ≤ 100) (s k : Int) (hs : I64 s) (hk : I64 k)
include h hn
set_option maxRecDepth 100000 in
theorem does_0 : Calls Tryd.prog 10 #[.pointer (some ⟨bP, 0, none⟩), .pointer (some ⟨bR, 0, none⟩), .agg #[.int .i64 0, .int .i64 s, .int .i64 k]] w (Does bP bM bR R w) := by
  have hU := h.below ((Below.refl _ w).alloc (Nat.le_refl _) (.cells #[.int .i64 0, .int .i64 s, .int .i64 k] 33))
  have hD := hU.below (Below.refl _ _).drew
  have HD := Lib.hid hD
  have hlt := h.wh.lt
  have hlr := h.rw_.ar.lt
  have HX := Lib.hid (Has.made w 33 [.int .i64 0, .int .i64 s, .int .i64 k])
  have HXD := Lib.hid HX.out.drew
  have HKU := Lib.hid (show Kept (tri bP bM bR) w (w.alloc (.cells #[.int .i64 0, .int .i64 s, .int .i64 k] 33)).drew from ((Kept.refl _ w).alloc _).drew)
  have x1 : (w.alloc (.cells #[.int .i64 0, .int .i64 s, .int .i64 k] 33)).cell? ⟨w.heap.size, 1, none⟩ = some (.int .i64 s) := HX.out.cell 1
  have x2 : (w.alloc (.cells #[.int .i64 0, .int .i64 s, .int .i64 k] 33)).cell? ⟨w.heap.size, 2, none⟩ = some (.int .i64 k) := HX.out.cell 2
  by_cases hok : 0 ≤ s ∧ s < 64 ∧ 0 ≤ k ∧ k ≤ 1048575
  · obtain ⟨g1, g2, g3, g4⟩ := hok
    obtain ⟨i, rfl⟩ := Int.eq_ofNat_of_zero_le g1
    obtain ⟨x, rfl⟩ := Int.eq_ofNat_of_zero_le g3
    have hi : i < 64 := by omega
    have hx : x ≤ 1048575 := by omega
    have HC1 := Lib.hid (Add_T bP bM R _ hD.wh i x hi hx (by omega))
    have HTT := Lib.hid (addR_tot R i x hi)
    clear h hU hD g1 g2 g3 g4
    go_enter Tryd.func10, Tryd.ntmps10
    go_wp2_with fail
    go_region_held3 (fun w' => w'.cell? ⟨w.heap.size, 1, none⟩ = some (.int .i64 (i : Int)) ∧ w'.cell? ⟨w.heap.size, 2, none⟩ = some (.int .i64 (x : Int))) (first | exact ⟨x1, x2⟩ | exact ⟨y1, y2⟩ | exact ⟨z1, z2⟩ | go_keep) (first | (go_at_call 15; refine HC1.out.mono ?_; rintro e w2 ⟨rfl, hW, hK⟩; have HW2 := Lib.hid hW; have hx2 := HXD.out.kept hK (fun e => by rcases e with e | e <;> omega); have y1 := hx2.cell 1; have y2 := hx2.cell 2; simp at y1 y2; have HX2 := Lib.hid hx2; have HK2 := Lib.hid (tri_trans HKU.out (tri_two hK)); have hR2 := HD.out.rw_.kept hK; have HC2 := Lib.hid (rAdd_yes bR (two bP bM) R vs w2 hR2 (fun b hb => by have := HK2.out.size; rcases hb with e | e <;> omega) HD.out.wh.ap i x hi hx (by omega)); clear hW hK hx2 hR2 HC1) | (go_at_call 22; refine HC2.out.mono ?_; rintro e w3 ⟨vs3, rfl, hR3, hK3⟩; have HB3 := Lib.hid (show Both w3 bP bM bR (addR R i x) vs3 from ⟨HW2.out.past hK3 HD.out.ne, hR3⟩); have HK3 := Lib.hid (tri_trans HK2.out (tri_ref hK3)); have hx3 := HX2.out.kept hK3 (by omega); have z1 := hx3.cell 1; have z2 := hx3.cell 2; simp at z1 z2; clear hR3 hK3 hx3 HC2))
    go_wp2
    go_ret
    exact ⟨_, _, rfl, HB3.out, HK3.out, HTT.out⟩
  · have HC1 := Lib.hid (Add_no bP bM R _ hD.wh s k hok)
    have HC2 := Lib.hid (rAdd_bad bR s k (w.alloc (.cells #[.int .i64 0, .int .i64 s, .int .i64 k] 33)).drew hok)
    clear h hU hD hok
    go_enter Tryd.func10, Tryd.ntmps10
    go_wp2_with fail
    go_region_held3 (fun w' => w'.cell? ⟨w.heap.size, 1, none⟩ = some (.int .i64 s) ∧ w'.cell? ⟨w.heap.size, 2, none⟩ = some (.int .i64 k)) (first | exact ⟨x1, x2⟩ | go_keep) (first | (go_at_call 15; refine HC1.out.mono ?_; rintro e w2 ⟨rfl, rfl⟩) | (go_at_call 22; refine HC2.out.mono ?_; rintro e w3 ⟨rfl, rfl⟩))
    go_wp2
    go_ret
    exact ⟨_, _, rfl, HD.out, HKU.out, Nat.le_succ _⟩
end
end Go.Proofs.YtknehglahdkafaaDoor
