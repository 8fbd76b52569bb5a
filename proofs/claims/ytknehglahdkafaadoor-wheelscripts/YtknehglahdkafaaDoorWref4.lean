/- The document's own wheel: Add, the walk. -/
import Derived.Test.YtknehglahdkafaaDoorWref3
namespace Go.Proofs.YtknehglahdkafaaDoor
open Go.ChangeShapes Go.WideShapes Go.ChangeAt Go.RowKit
set_option linter.unusedVariables false

theorem below_one (w : World) (o : Obj) : Below w.heap.size w.drew (w.drew.alloc o) := (Below.refl w.drew.heap.size w.drew).alloc (Nat.le_refl _) o
theorem size_one (w : World) (o : Obj) : (w.drew.alloc o).heap.size = w.heap.size + 1 := by show (w.heap.push _).size = _; simp
theorem below_two (w : World) (o p : Obj) : Below w.heap.size w.drew ((w.drew.alloc o).alloc p) := (below_one w o).alloc (by rw [size_one]; omega) p
theorem size_two (w : World) (o p : Obj) : ((w.drew.alloc o).alloc p).heap.size = w.heap.size + 2 := by show ((w.heap.push _).push _).size = _; simp
theorem rDrop_any (bR : Nat) (N : Nat → Prop) (R : Nat → List Nat) (vs : List Value) (w : World) (h : RW w bR N R vs) (hN : ∀ b, N b → b < w.heap.size) (hap : ∀ i j x, i < 64 → j < 64 → x ∈ R i → x ∈ R j → i = j) (x : Nat) (r : Bool) (hr : r = true ↔ ∃ i, i < 64 ∧ x ∈ R i) :
    Calls Tryd.prog 23 #[.pointer (some ⟨bR, 0, none⟩), .int .i64 (x : Int)] w (RDrop bR N (dropR R x) r w) := by
  by_cases hx : ∃ i, i < 64 ∧ x ∈ R i
  · have : r = true := hr.2 hx
    subst this
    obtain ⟨t, ht, hm⟩ := hx
    exact rDrop_yes bR N R vs w h hN hap t x ht hm
  · have hrf : r = false := by
      cases r with
      | false => rfl
      | true => exact absurd (hr.1 rfl) hx
    subst hrf
    refine (rDrop_no bR N R vs w h hap (x : Int) (fun i hi y hy e => hx ⟨i, hi, cast_mem e hy⟩)).mono ?_
    rintro e w' ⟨rfl, rfl⟩
    exact ⟨vs, rfl, h.congr (fun j hj => (filter_not (fun hm => hx ⟨j, hj, hm⟩)).symm), Kept.refl _ _⟩
set_option maxRecDepth 100000 in
set_option maxHeartbeats 4000000 in
theorem rAdd_yes (bR : Nat) (N : Nat → Prop) (R : Nat → List Nat) (vs : List Value) (w : World) (h : RW w bR N R vs) (hN : ∀ b, N b → b < w.heap.size) (hap : ∀ i j x, i < 64 → j < 64 → x ∈ R i → x ∈ R j → i = j) (i x : Nat) (hi : i < 64) (hx : x ≤ 1048575) (ht : tot R 64 ≤ 800) :
    Calls Tryd.prog 22 #[.pointer (some ⟨bR, 0, none⟩), .int .i64 (i : Int), .int .i64 (x : Int)] w (RAdd bR N (addR R i x) w) := by
  obtain ⟨r, hr⟩ : ∃ r : Bool, r = true ↔ ∃ i, i < 64 ∧ x ∈ R i := by
    by_cases q : ∃ i, i < 64 ∧ x ∈ R i
    · exact ⟨true, by simp [q]⟩
    · exact ⟨false, by simp; exact fun i hi hx => q ⟨i, hi, hx⟩⟩
  have HD := Lib.hid (rDrop_any bR N R vs w h hN hap x r hr)
  have HTT := Lib.hid (show tot (dropR R x) 64 ≤ 800 from Nat.le_trans (dropR_tot R x 64) ht)
  have HNN := Lib.hid hN
  clear h hN hap hr ht
  go_enter Tryd.func22, Tryd.ntmps22
  go_wp2_with fail
  refine HD.out.mono ?_
  rintro e w1 ⟨vs1, rfl, hR, hK⟩
  have HR := Lib.hid (show RW w1.drew bR N (dropR R x) vs1 from hR.below (Below.refl _ _).drew)
  have HK := Lib.hid (show Kept (fun b => b = bR) w w1.drew from hK.drew)
  obtain ⟨A, cap, d0, hc, hI⟩ := hR.get hi
  have HIA := Lib.hid (show IntsAt w1.drew A cap ((dropR R x i).map fun (x : Nat) => (x : Int)) from hI)
  have hl := hR.len hi
  have l0 := hR.ar.loose i
  have hb := hR.ar.lt
  have D0 := Lib.hid d0
  have L0 := Lib.hid l0
  clear hR hK hI HD
  obtain ⟨n, hn⟩ : ∃ n, (dropR R x i).length = n := ⟨_, rfl⟩
  have HLN := Lib.hid hn
  rw [hn] at d0 hc hl D0
  clear hn
  obtain ⟨w0, hw0⟩ : ∃ w0, w0 = w1.drew := ⟨_, rfl⟩
  have hsz : w0.heap.size = w1.heap.size := by rw [hw0]; rfl
  have HW0 := Lib.hid hw0
  have RR := Lib.hid (fun (w5 : World) (g cap' : Nat) (hB : Below w1.heap.size w1.drew w5) (hO : w5.ownsRow w1.heap.size 3 1 (.slice (some ⟨g, 0, none⟩) (n + 1) cap') (n + 1) (idsV (dropR R x i ++ [x]))) (hg : w1.heap.size ≤ g) (hgl : g < w5.heap.size) => show RAdd bR N (addR R i x) w (.returned (.int .i64 0)) (w5.setCell ⟨bR, i, none⟩ (.slice (some ⟨g, 0, none⟩) (n + 1) cap')) from by
    obtain ⟨q1, q2⟩ := radd_end (x := x) HR.out hi (fun b hz => Nat.lt_of_lt_of_le (HNN.out b hz) HK.out.size) HLN.out hB hO hg hgl HTT.out
    exact ⟨_, rfl, q1, HK.out.trans q2 (fun b hb => .inl hb)⟩)
  -- the three worlds in which the first append may come
  have OA := Lib.hid (show (w1.drew.alloc (.cells #[] 3)).ownsRow w1.heap.size 3 1 (.slice (some ⟨w1.heap.size, 0, none⟩) 0 0) 0 (idsV []) from Has.owns (rest := []) (Has.made w1.drew 3 []) rfl rfl (by decide) (Nat.le_refl _))
  have OB := Lib.hid (show ((w1.drew.alloc (.cells #[] 3)).alloc (.cells #[.int .i64 (x : Int)] 3)).ownsRow w1.heap.size 3 1 (.slice (some ⟨w1.heap.size, 0, none⟩) 0 0) 0 (idsV []) from Has.owns (rest := []) ((Has.made w1.drew 3 []).alloc _) rfl rfl (by decide) (Nat.le_refl _))
  have OC := Lib.hid (show ((w1.drew.alloc (.cells #[.int .i64 (x : Int)] 3)).alloc (.cells #[] 3)).ownsRow w1.heap.size 3 1 (.slice (some ⟨w1.heap.size + 1, 0, none⟩) 0 0) 0 (idsV []) from by
    have := Has.made (w1.drew.alloc (.cells #[.int .i64 (x : Int)] 3)) 3 []
    rw [show (w1.drew.alloc (.cells #[.int .i64 (x : Int)] 3)).heap.size = w1.heap.size + 1 by show (w1.heap.push _).size = _; simp] at this
    exact Has.owns (rest := []) this rfl rfl (by decide) (by omega))
  clear hw0 hsz HW0
  have hi' : (i : Int) < 64 := by omega
  go_wp2_with fail
  go_region_law (first | (have BU : Below w1.heap.size w1.drew (w1.drew.alloc (.cells #[] 3)) := below_one _ _; have BUS : w1.heap.size ≤ (w1.drew.alloc (.cells #[] 3)).heap.size := BU.size; have BUZ : (w1.drew.alloc (.cells #[] 3)).heap.size = w1.heap.size + 1 := size_one _ _; refine step_spread (w1.drew.alloc (.cells #[] 3)) w1.heap.size w1.heap.size rfl (.tmp 26) (.tmp 32) rfl A n cap (dropR R x i) HLN.out (by simp [Act.eval]) (by simp [Act.eval]) OA.out (HIA.out.below BU) (by omega) BUS ?_; intro g4 cap4 w4 hO4 hK4 hg4; have HO4 := Lib.hid hO4; have HB4 := Lib.hid (show Below w1.heap.size w1.drew w4 from BU.trans (hK4.below BUS (fun b hb e => by omega))); have hg4' : w1.heap.size ≤ g4 := (by omega); have hs4 : w1.heap.size ≤ w4.heap.size := HB4.out.size; clear hO4 hK4 hg4) | (have BU : Below w1.heap.size w1.drew ((w1.drew.alloc (.cells #[] 3)).alloc (.cells #[.int .i64 (x : Int)] 3)) := below_two _ _ _; have BUS : w1.heap.size ≤ ((w1.drew.alloc (.cells #[] 3)).alloc (.cells #[.int .i64 (x : Int)] 3)).heap.size := BU.size; have BUZ : ((w1.drew.alloc (.cells #[] 3)).alloc (.cells #[.int .i64 (x : Int)] 3)).heap.size = w1.heap.size + 2 := size_two _ _ _; refine step_spread ((w1.drew.alloc (.cells #[] 3)).alloc (.cells #[.int .i64 (x : Int)] 3)) w1.heap.size w1.heap.size rfl (.tmp 26) (.tmp 32) rfl A n cap (dropR R x i) HLN.out (by simp [Act.eval]) (by simp [Act.eval]) OB.out (HIA.out.below BU) (by omega) BUS ?_; intro g4 cap4 w4 hO4 hK4 hg4; have HO4 := Lib.hid hO4; have HB4 := Lib.hid (show Below w1.heap.size w1.drew w4 from BU.trans (hK4.below BUS (fun b hb e => by omega))); have hg4' : w1.heap.size ≤ g4 := (by omega); have hs4 : w1.heap.size ≤ w4.heap.size := HB4.out.size; have hcx : w4.cell? ⟨w1.heap.size + 1, 0, none⟩ = some (.int .i64 (x : Int)) := (by have q := Has.made (w1.drew.alloc (.cells #[] 3)) 3 [.int .i64 (x : Int)]; rw [show (w1.drew.alloc (.cells #[] 3)).heap.size = w1.heap.size + 1 from size_one _ _] at q; exact (q.kept hK4 (by omega)).cell 0); clear hO4 hK4 hg4) | (have BU : Below w1.heap.size w1.drew ((w1.drew.alloc (.cells #[.int .i64 (x : Int)] 3)).alloc (.cells #[] 3)) := below_two _ _ _; have BUS : w1.heap.size ≤ ((w1.drew.alloc (.cells #[.int .i64 (x : Int)] 3)).alloc (.cells #[] 3)).heap.size := BU.size; have BUZ : ((w1.drew.alloc (.cells #[.int .i64 (x : Int)] 3)).alloc (.cells #[] 3)).heap.size = w1.heap.size + 2 := size_two _ _ _; refine step_spread ((w1.drew.alloc (.cells #[.int .i64 (x : Int)] 3)).alloc (.cells #[] 3)) w1.heap.size (w1.heap.size + 1) rfl (.tmp 26) (.tmp 32) rfl A n cap (dropR R x i) HLN.out (by simp [Act.eval]) (by simp [Act.eval]) OC.out (HIA.out.below BU) (by omega) BUS ?_; intro g4 cap4 w4 hO4 hK4 hg4; have HO4 := Lib.hid hO4; have HB4 := Lib.hid (show Below w1.heap.size w1.drew w4 from BU.trans (hK4.below BUS (fun b hb e => by omega))); have hg4' : w1.heap.size ≤ g4 := (by omega); have hs4 : w1.heap.size ≤ w4.heap.size := HB4.out.size; have hcx : w4.cell? ⟨w1.heap.size, 0, none⟩ = some (.int .i64 (x : Int)) := (by have q := (Has.made w1.drew 3 [.int .i64 (x : Int)]).alloc (.cells #[] 3); exact (q.kept hK4 (by show ¬ w1.heap.size = _; omega)).cell 0); clear hO4 hK4 hg4) | (have BV : Below w1.heap.size w1.drew (w4.alloc (.cells #[.int .i64 (x : Int)] 3)) := HB4.out.alloc hs4 _; have BVS : w1.heap.size ≤ (w4.alloc (.cells #[.int .i64 (x : Int)] 3)).heap.size := BV.size; have BVZ : (w4.alloc (.cells #[.int .i64 (x : Int)] 3)).heap.size = w4.heap.size + 1 := (by simp); refine step_row1 (w4.alloc (.cells #[.int .i64 (x : Int)] 3)) w1.heap.size g4 n cap4 w4.heap.size rfl (.tmp 33) (.tmp 35) rfl (dropR R x i) x (by simp [Act.eval]) (by simp [Act.eval]) (HO4.out.alloc _) ((Has.made w4 3 [.int .i64 (x : Int)]).cell 0) (by omega) BVS ?_; intro g5 cap5 w5 hO5 hK5 hg5 hl5; have HB5 : Below w1.heap.size w1.drew w5 := BV.trans (hK5.below BVS (fun b hb e => by omega)); have hg5' : w1.heap.size ≤ g5 := (by omega); have RQ := Lib.hid (RR.out w5 g5 cap5 HB5 hO5 hg5' hl5); have d5 := (HB5.cell (p := ⟨bR, i, none⟩) hb).trans D0.out; have l5 := (HB5.frozen (p := ⟨bR, i, none⟩) hb).trans L0.out; have b5 : bR < w5.heap.size := Nat.lt_of_lt_of_le hb HB5.size; clear hO5 hK5 hg5 hl5 HB5) | (have BV := HB4.out; have BVS := hs4; refine step_row1 w4 w1.heap.size g4 n cap4 (w1.heap.size + 1) rfl (.tmp 33) (.tmp 35) rfl (dropR R x i) x (by simp [Act.eval]) (by simp [Act.eval]) HO4.out hcx (by omega) BVS ?_; intro g5 cap5 w5 hO5 hK5 hg5 hl5; have HB5 : Below w1.heap.size w1.drew w5 := BV.trans (hK5.below BVS (fun b hb e => by omega)); have hg5' : w1.heap.size ≤ g5 := (by omega); have RQ := Lib.hid (RR.out w5 g5 cap5 HB5 hO5 hg5' hl5); have d5 := (HB5.cell (p := ⟨bR, i, none⟩) hb).trans D0.out; have l5 := (HB5.frozen (p := ⟨bR, i, none⟩) hb).trans L0.out; have b5 : bR < w5.heap.size := Nat.lt_of_lt_of_le hb HB5.size; clear hO5 hK5 hg5 hl5 HB5) | (have BV := HB4.out; have BVS := hs4; refine step_row1 w4 w1.heap.size g4 n cap4 w1.heap.size rfl (.tmp 33) (.tmp 35) rfl (dropR R x i) x (by simp [Act.eval]) (by simp [Act.eval]) HO4.out hcx (by omega) BVS ?_; intro g5 cap5 w5 hO5 hK5 hg5 hl5; have HB5 : Below w1.heap.size w1.drew w5 := BV.trans (hK5.below BVS (fun b hb e => by omega)); have hg5' : w1.heap.size ≤ g5 := (by omega); have RQ := Lib.hid (RR.out w5 g5 cap5 HB5 hO5 hg5' hl5); have d5 := (HB5.cell (p := ⟨bR, i, none⟩) hb).trans D0.out; have l5 := (HB5.frozen (p := ⟨bR, i, none⟩) hb).trans L0.out; have b5 : bR < w5.heap.size := Nat.lt_of_lt_of_le hb HB5.size; clear hO5 hK5 hg5 hl5 HB5))
  all_goals (go_wp2; go_ret; exact RQ.out)
end Go.Proofs.YtknehglahdkafaaDoor
