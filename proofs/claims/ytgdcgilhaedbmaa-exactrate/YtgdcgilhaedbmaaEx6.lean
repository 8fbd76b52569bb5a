/- The contracts of exact's May and of the document's. WRITTEN BY gen_ex6.py. -/
import Derived.Test.YtgdcgilhaedbmaaEx5
import Derived.BigQuiet
-- prune
namespace Go.Proofs.Ytgdcgilhaedbmaa
open Go.ChangeShapes Go.WideShapes Go.ChangeAt Go.RowKit
set_option linter.unusedVariables false

/-- A cell that may be one of an exact log. -/
structure MayE (k l v b a m : Int) (sn n : Nat) (f g : Nat → Int) : Prop where
  p : EP k l v b
  a1 : 0 ≤ a
  a2 : a ≤ 1099511627776
  m0 : m = 0
  s0 : sn = 0
  h : MayHits l v a n f g

set_option maxRecDepth 100000 in
set_option maxHeartbeats 4000000 in
theorem May_p (k l v b a m : Int) (sa ha : Option Addr) (sn sc n hc : Nat) (w : World) (h : ¬ MayP k l v b) : Calls Try.prog 13 #[.agg #[.int .i64 k, .int .i64 l, .int .i64 v, .int .i64 b], .agg #[.int .i64 a, .int .i64 m, .slice sa sn sc, .slice ha n hc]] w fun e w' => e = .returned (.bool false) ∧ Below w.heap.size w w' := by
  have CK := Lib.hid (fun u => Check_no k l v b u h)
  clear h
  have HP := Lib.hid (PC.made w k l v b a m (.slice sa sn sc) (.slice ha n hc) 23 27)
  go_enter Try.func13, Try.ntmps13
  go_wp2_with fail
  refine (CK.out _).mono ?_; rintro e w1 ⟨rfl, hb⟩
  have H1 := Lib.hid (HP.out.step hb)
  clear hb HP
  obtain ⟨z0, z1, z2, z3, z4, z5, z6, z7⟩ := H1.out.eight
  go_wp2_with fail
  go_ret
  exact ⟨rfl, H1.out.be⟩

set_option maxRecDepth 100000 in
set_option maxHeartbeats 4000000 in
theorem May_k (k l v b a m : Int) (sa ha : Option Addr) (sn sc n hc : Nat) (w : World) (h : MayP k l v b) (hk : ¬ k = 4) : Calls Try.prog 13 #[.agg #[.int .i64 k, .int .i64 l, .int .i64 v, .int .i64 b], .agg #[.int .i64 a, .int .i64 m, .slice sa sn sc, .slice ha n hc]] w fun e w' => e = .returned (.bool false) ∧ Below w.heap.size w w' := by
  have CK := Lib.hid (fun u => Check_yes k l v b u h)
  have tk : (k != 4) = true := by simp [hk]
  clear h hk
  have HP := Lib.hid (PC.made w k l v b a m (.slice sa sn sc) (.slice ha n hc) 23 27)
  go_enter Try.func13, Try.ntmps13
  go_wp2_with fail
  refine (CK.out _).mono ?_; rintro e w1 ⟨rfl, hb⟩
  have H1 := Lib.hid (HP.out.step hb)
  clear hb HP
  obtain ⟨z0, z1, z2, z3, z4, z5, z6, z7⟩ := H1.out.eight
  go_wp2_with fail
  go_ret
  exact ⟨rfl, H1.out.be⟩

set_option maxRecDepth 100000 in
set_option maxHeartbeats 4000000 in
theorem May_a (k l v b a m : Int) (sa ha : Option Addr) (sn sc n hc : Nat) (w : World) (h : MayP k l v b) (hk : k = 4) (ha1 : ¬ (0 ≤ a ∧ a ≤ 1099511627776)) : Calls Try.prog 13 #[.agg #[.int .i64 k, .int .i64 l, .int .i64 v, .int .i64 b], .agg #[.int .i64 a, .int .i64 m, .slice sa sn sc, .slice ha n hc]] w fun e w' => e = .returned (.bool false) ∧ Below w.heap.size w w' := by
  have CK := Lib.hid (fun u => Check_yes k l v b u h)
  have tk : (k != 4) = false := by simp [hk]
  have TK := Lib.hid (fun u => isTick_no a u ha1)
  clear h hk ha1
  have HP := Lib.hid (PC.made w k l v b a m (.slice sa sn sc) (.slice ha n hc) 23 27)
  go_enter Try.func13, Try.ntmps13
  go_wp2_with fail
  refine (CK.out _).mono ?_; rintro e w1 ⟨rfl, hb⟩
  have H1 := Lib.hid (HP.out.step hb)
  clear hb HP
  obtain ⟨z0, z1, z2, z3, z4, z5, z6, z7⟩ := H1.out.eight
  go_wp2_with fail
  refine (TK.out _).mono ?_; rintro e w' ⟨rfl, rfl⟩
  go_wp2_with fail
  go_ret
  exact ⟨rfl, H1.out.be⟩

set_option maxRecDepth 100000 in
set_option maxHeartbeats 4000000 in
theorem May_n (k l v b a m : Int) (sa ha : Option Addr) (sn sc n hc : Nat) (w : World) (h : MayP k l v b) (hk : k = 4) (a1 : 0 ≤ a) (a2 : a ≤ 1099511627776) (hn1 : ¬ m = 0) : Calls Try.prog 13 #[.agg #[.int .i64 k, .int .i64 l, .int .i64 v, .int .i64 b], .agg #[.int .i64 a, .int .i64 m, .slice sa sn sc, .slice ha n hc]] w fun e w' => e = .returned (.bool false) ∧ Below w.heap.size w w' := by
  have CK := Lib.hid (fun u => Check_yes k l v b u h)
  have tk : (k != 4) = false := by simp [hk]
  have TK := Lib.hid (fun u => isTick_yes a u a1 a2)
  have tn : (m == 0) = false := by simp [hn1]
  have tn' : (m != 0) = true := by simp [hn1]
  clear h hk hn1
  have HP := Lib.hid (PC.made w k l v b a m (.slice sa sn sc) (.slice ha n hc) 23 27)
  go_enter Try.func13, Try.ntmps13
  go_wp2_with fail
  refine (CK.out _).mono ?_; rintro e w1 ⟨rfl, hb⟩
  have H1 := Lib.hid (HP.out.step hb)
  clear hb HP
  obtain ⟨z0, z1, z2, z3, z4, z5, z6, z7⟩ := H1.out.eight
  go_wp2_with fail
  refine (TK.out _).mono ?_; rintro e w' ⟨rfl, rfl⟩
  go_wp2_with fail
  go_ret
  exact ⟨rfl, H1.out.be⟩

set_option maxRecDepth 100000 in
set_option maxHeartbeats 4000000 in
theorem May_s (k l v b a m : Int) (sa ha : Option Addr) (sn sc n hc : Nat) (w : World) (h : MayP k l v b) (hk : k = 4) (a1 : 0 ≤ a) (a2 : a ≤ 1099511627776) (hn1 : m = 0) (hh : ¬ sn = 0) (hx : sn ≤ maxLen) : Calls Try.prog 13 #[.agg #[.int .i64 k, .int .i64 l, .int .i64 v, .int .i64 b], .agg #[.int .i64 a, .int .i64 m, .slice sa sn sc, .slice ha n hc]] w fun e w' => e = .returned (.bool false) ∧ Below w.heap.size w w' := by
  have CK := Lib.hid (fun u => Check_yes k l v b u h)
  have tk : (k != 4) = false := by simp [hk]
  have TK := Lib.hid (fun u => isTick_yes a u a1 a2)
  unfold maxLen at hx
  have tn : (m == 0) = true := by simp [hn1]
  have tn' : (m != 0) = false := by simp [hn1]
  have th : ((sn : Int) == 0) = false := by simp; omega
  have th' : ((sn : Int) != 0) = true := by simp; omega
  clear h hk hn1
  have HP := Lib.hid (PC.made w k l v b a m (.slice sa sn sc) (.slice ha n hc) 23 27)
  go_enter Try.func13, Try.ntmps13
  go_wp2_with fail
  refine (CK.out _).mono ?_; rintro e w1 ⟨rfl, hb⟩
  have H1 := Lib.hid (HP.out.step hb)
  clear hb HP
  obtain ⟨z0, z1, z2, z3, z4, z5, z6, z7⟩ := H1.out.eight
  go_wp2_with fail
  refine (TK.out _).mono ?_; rintro e w' ⟨rfl, rfl⟩
  go_wp2_with fail
  go_ret
  exact ⟨rfl, H1.out.be⟩

set_option maxRecDepth 100000 in
set_option maxHeartbeats 4000000 in
theorem rMay_p (k l v b a m : Int) (sa ha : Option Addr) (sn sc n hc : Nat) (w : World) (h : ¬ MayP k l v b) : Calls Try.prog 14 #[.agg #[.int .i64 k, .int .i64 l, .int .i64 v, .int .i64 b], .agg #[.int .i64 a, .int .i64 m, .slice sa sn sc, .slice ha n hc]] w fun e w' => e = .returned (.bool false) ∧ Below w.heap.size w w' := by
  have CK := Lib.hid (fun u => rCheck_no k l v b u h)
  clear h
  have HP := Lib.hid (PC.made w k l v b a m (.slice sa sn sc) (.slice ha n hc) 23 27)
  go_enter Try.func14, Try.ntmps14
  go_wp2_with fail
  refine (CK.out _).mono ?_; rintro e w1 ⟨rfl, hb⟩
  have H1 := Lib.hid (HP.out.step hb)
  clear hb HP
  obtain ⟨z0, z1, z2, z3, z4, z5, z6, z7⟩ := H1.out.eight
  go_wp2_with fail
  go_ret
  exact ⟨rfl, H1.out.be⟩

set_option maxRecDepth 100000 in
set_option maxHeartbeats 4000000 in
theorem rMay_k (k l v b a m : Int) (sa ha : Option Addr) (sn sc n hc : Nat) (w : World) (h : MayP k l v b) (hk : ¬ k = 4) : Calls Try.prog 14 #[.agg #[.int .i64 k, .int .i64 l, .int .i64 v, .int .i64 b], .agg #[.int .i64 a, .int .i64 m, .slice sa sn sc, .slice ha n hc]] w fun e w' => e = .returned (.bool false) ∧ Below w.heap.size w w' := by
  have CK := Lib.hid (fun u => rCheck_yes k l v b u h)
  have tk : (k != 4) = true := by simp [hk]
  clear h hk
  have HP := Lib.hid (PC.made w k l v b a m (.slice sa sn sc) (.slice ha n hc) 23 27)
  go_enter Try.func14, Try.ntmps14
  go_wp2_with fail
  refine (CK.out _).mono ?_; rintro e w1 ⟨rfl, hb⟩
  have H1 := Lib.hid (HP.out.step hb)
  clear hb HP
  obtain ⟨z0, z1, z2, z3, z4, z5, z6, z7⟩ := H1.out.eight
  go_wp2_with fail
  go_ret
  exact ⟨rfl, H1.out.be⟩

set_option maxRecDepth 100000 in
set_option maxHeartbeats 4000000 in
theorem rMay_a (k l v b a m : Int) (sa ha : Option Addr) (sn sc n hc : Nat) (w : World) (h : MayP k l v b) (hk : k = 4) (ha1 : ¬ (0 ≤ a ∧ a ≤ 1099511627776)) : Calls Try.prog 14 #[.agg #[.int .i64 k, .int .i64 l, .int .i64 v, .int .i64 b], .agg #[.int .i64 a, .int .i64 m, .slice sa sn sc, .slice ha n hc]] w fun e w' => e = .returned (.bool false) ∧ Below w.heap.size w w' := by
  have CK := Lib.hid (fun u => rCheck_yes k l v b u h)
  have tk : (k != 4) = false := by simp [hk]
  have TK := Lib.hid (fun u => rTime_no a u ha1)
  clear h hk ha1
  have HP := Lib.hid (PC.made w k l v b a m (.slice sa sn sc) (.slice ha n hc) 23 27)
  go_enter Try.func14, Try.ntmps14
  go_wp2_with fail
  refine (CK.out _).mono ?_; rintro e w1 ⟨rfl, hb⟩
  have H1 := Lib.hid (HP.out.step hb)
  clear hb HP
  obtain ⟨z0, z1, z2, z3, z4, z5, z6, z7⟩ := H1.out.eight
  go_wp2_with fail
  refine (TK.out _).mono ?_; rintro e w' ⟨rfl, rfl⟩
  go_wp2_with fail
  go_ret
  exact ⟨rfl, H1.out.be⟩

set_option maxRecDepth 100000 in
set_option maxHeartbeats 4000000 in
theorem rMay_n (k l v b a m : Int) (sa ha : Option Addr) (sn sc n hc : Nat) (w : World) (h : MayP k l v b) (hk : k = 4) (a1 : 0 ≤ a) (a2 : a ≤ 1099511627776) (hn1 : ¬ m = 0) : Calls Try.prog 14 #[.agg #[.int .i64 k, .int .i64 l, .int .i64 v, .int .i64 b], .agg #[.int .i64 a, .int .i64 m, .slice sa sn sc, .slice ha n hc]] w fun e w' => e = .returned (.bool false) ∧ Below w.heap.size w w' := by
  have CK := Lib.hid (fun u => rCheck_yes k l v b u h)
  have tk : (k != 4) = false := by simp [hk]
  have TK := Lib.hid (fun u => rTime_yes a u a1 a2)
  have tn : (m == 0) = false := by simp [hn1]
  have tn' : (m != 0) = true := by simp [hn1]
  clear h hk hn1
  have HP := Lib.hid (PC.made w k l v b a m (.slice sa sn sc) (.slice ha n hc) 23 27)
  go_enter Try.func14, Try.ntmps14
  go_wp2_with fail
  refine (CK.out _).mono ?_; rintro e w1 ⟨rfl, hb⟩
  have H1 := Lib.hid (HP.out.step hb)
  clear hb HP
  obtain ⟨z0, z1, z2, z3, z4, z5, z6, z7⟩ := H1.out.eight
  go_wp2_with fail
  refine (TK.out _).mono ?_; rintro e w' ⟨rfl, rfl⟩
  go_wp2_with fail
  go_ret
  exact ⟨rfl, H1.out.be⟩

set_option maxRecDepth 100000 in
set_option maxHeartbeats 4000000 in
theorem rMay_s (k l v b a m : Int) (sa ha : Option Addr) (sn sc n hc : Nat) (w : World) (h : MayP k l v b) (hk : k = 4) (a1 : 0 ≤ a) (a2 : a ≤ 1099511627776) (hn1 : m = 0) (hh : ¬ sn = 0) (hx : sn ≤ maxLen) : Calls Try.prog 14 #[.agg #[.int .i64 k, .int .i64 l, .int .i64 v, .int .i64 b], .agg #[.int .i64 a, .int .i64 m, .slice sa sn sc, .slice ha n hc]] w fun e w' => e = .returned (.bool false) ∧ Below w.heap.size w w' := by
  have CK := Lib.hid (fun u => rCheck_yes k l v b u h)
  have tk : (k != 4) = false := by simp [hk]
  have TK := Lib.hid (fun u => rTime_yes a u a1 a2)
  unfold maxLen at hx
  have tn : (m == 0) = true := by simp [hn1]
  have tn' : (m != 0) = false := by simp [hn1]
  have th : ((sn : Int) == 0) = false := by simp; omega
  have th' : ((sn : Int) != 0) = true := by simp; omega
  clear h hk hn1
  have HP := Lib.hid (PC.made w k l v b a m (.slice sa sn sc) (.slice ha n hc) 23 27)
  go_enter Try.func14, Try.ntmps14
  go_wp2_with fail
  refine (CK.out _).mono ?_; rintro e w1 ⟨rfl, hb⟩
  have H1 := Lib.hid (HP.out.step hb)
  clear hb HP
  obtain ⟨z0, z1, z2, z3, z4, z5, z6, z7⟩ := H1.out.eight
  go_wp2_with fail
  refine (TK.out _).mono ?_; rintro e w' ⟨rfl, rfl⟩
  go_wp2_with fail
  go_ret
  exact ⟨rfl, H1.out.be⟩

set_option maxRecDepth 100000 in
set_option maxHeartbeats 4000000 in
theorem May_yes (k l v b a : Int) (sa ha : Option Addr) (sc n hc : Nat) (f g : Nat → Int) (w : World) (h : EP k l v b) (a1 : 0 ≤ a) (a2 : a ≤ 1099511627776) (hh : HitsAt w ha n f g) (hn : n ≤ maxLen) (hm : MayHits l v a n f g) : Calls Try.prog 13 #[.agg #[.int .i64 k, .int .i64 l, .int .i64 v, .int .i64 b], .agg #[.int .i64 a, .int .i64 0, .slice sa 0 sc, .slice ha n hc]] w fun e w' => e = .returned (.bool true) ∧ Below w.heap.size w w' := by
  have CK := Lib.hid (fun u => Check_yes k l v b u h.p)
  have TK := Lib.hid (fun u => isTick_yes a u a1 a2)
  have MS := Lib.hid (fun u (hu : Below w.heap.size w u) => mayHits_yes k l v b a sa ha sc n hc f g u h a1 a2 (hh.below hu) hn hm)
  have tk : (k != 4) = false := by simp [h.k4]
  have HP := Lib.hid (PC.made w k l v b a 0 (.slice sa 0 sc) (.slice ha n hc) 23 27)
  clear h hm hh
  go_enter Try.func13, Try.ntmps13
  go_wp2_with fail
  refine (CK.out _).mono ?_; rintro e w1 ⟨rfl, hb⟩
  have H1 := Lib.hid (HP.out.step hb)
  clear hb HP
  obtain ⟨z0, z1, z2, z3, z4, z5, z6, z7⟩ := H1.out.eight
  go_wp2_with fail
  refine (TK.out _).mono ?_; rintro e w' ⟨rfl, rfl⟩
  go_wp2_with fail
  refine (MS.out _ H1.out.be).mono ?_; rintro e w2 ⟨rfl, hb⟩
  have H2 := Lib.hid (H1.out.step hb)
  clear hb
  go_wp2_with fail
  go_ret
  exact ⟨rfl, H2.out.be⟩

set_option maxRecDepth 100000 in
set_option maxHeartbeats 4000000 in
theorem May_h (k l v b a : Int) (sa ha : Option Addr) (sc n hc : Nat) (f g : Nat → Int) (w : World) (h : EP k l v b) (a1 : 0 ≤ a) (a2 : a ≤ 1099511627776) (hh : HitsAt w ha n f g) (hn : n ≤ maxLen) (hm : ¬ MayHits l v a n f g) : Calls Try.prog 13 #[.agg #[.int .i64 k, .int .i64 l, .int .i64 v, .int .i64 b], .agg #[.int .i64 a, .int .i64 0, .slice sa 0 sc, .slice ha n hc]] w fun e w' => e = .returned (.bool false) ∧ Below w.heap.size w w' := by
  have CK := Lib.hid (fun u => Check_yes k l v b u h.p)
  have TK := Lib.hid (fun u => isTick_yes a u a1 a2)
  have MS := Lib.hid (fun u (hu : Below w.heap.size w u) => mayHits_no k l v b a sa ha sc n hc f g u h a1 a2 (hh.below hu) hn hm)
  have tk : (k != 4) = false := by simp [h.k4]
  have HP := Lib.hid (PC.made w k l v b a 0 (.slice sa 0 sc) (.slice ha n hc) 23 27)
  clear h hm hh
  go_enter Try.func13, Try.ntmps13
  go_wp2_with fail
  refine (CK.out _).mono ?_; rintro e w1 ⟨rfl, hb⟩
  have H1 := Lib.hid (HP.out.step hb)
  clear hb HP
  obtain ⟨z0, z1, z2, z3, z4, z5, z6, z7⟩ := H1.out.eight
  go_wp2_with fail
  refine (TK.out _).mono ?_; rintro e w' ⟨rfl, rfl⟩
  go_wp2_with fail
  refine (MS.out _ H1.out.be).mono ?_; rintro e w2 ⟨rfl, hb⟩
  have H2 := Lib.hid (H1.out.step hb)
  clear hb
  go_wp2_with fail
  go_ret
  exact ⟨rfl, H2.out.be⟩

/-- The first i hits, as the document asks it. -/
def GoodD (l v a : Int) (f g : Nat → Int) (i : Nat) : Prop := ∀ j, j < i → 0 ≤ f j ∧ a - v < f j ∧ f j ≤ a ∧ 1 ≤ g j ∧ g j ≤ l ∧ (0 < j → f (j - 1) < f j)
theorem GoodD.sum {l v a : Int} {f g : Nat → Int} {i : Nat} (h : GoodD l v a f g i) (hl : l ≤ 16) : 0 ≤ sumF g i ∧ sumF g i ≤ i * 16 := by
  induction i with
  | zero => simp [sumF]
  | succ i ih =>
    have h1 := ih (fun j hj => h j (by omega))
    have h2 := h i (by omega)
    simp only [sumF]; omega
theorem GoodD.all {l v a : Int} {f g : Nat → Int} {n : Nat} (h : GoodD l v a f g n) (hs : sumF g n ≤ l) : MayHits l v a n f g :=
  ⟨fun i hi => by have := h i hi; exact ⟨this.1, this.2.1, this.2.2.1, this.2.2.2.1, this.2.2.2.2.1⟩, fun i hi => (h (i + 1) hi).2.2.2.2.2 (by omega), hs⟩
theorem MayHits.goodD {l v a : Int} {f g : Nat → Int} {n : Nat} (h : MayHits l v a n f g) : GoodD l v a f g n := fun j hj => by
  have h1 := h.each j hj
  refine ⟨h1.1, h1.2.1, h1.2.2.1, h1.2.2.2.1, h1.2.2.2.2, fun h0 => ?_⟩
  have := h.rise (j - 1) (by omega)
  rw [show j - 1 + 1 = j by omega] at this
  exact this
theorem GoodD.next {l v a : Int} {f g : Nat → Int} {i : Nat} (h : GoodD l v a f g i) (h1 : 0 ≤ f i) (h2 : f i ≤ a) (h3 : a - v < f i) (h4 : 0 < i → f (i - 1) < f i) (h5 : 1 ≤ g i) (h6 : g i ≤ l) : GoodD l v a f g (i + 1) := fun j hj => by
  by_cases e : j = i
  · subst e; exact ⟨h1, h3, h2, h5, h6, h4⟩
  · exact h j (by omega)

set_option maxRecDepth 100000 in
set_option maxHeartbeats 4000000 in
theorem rMay_yes (k l v b a : Int) (sa ha : Option Addr) (sc n hc : Nat) (f g : Nat → Int) (w : World) (h : EP k l v b) (a1 : 0 ≤ a) (a2 : a ≤ 1099511627776) (hh : HitsAt w ha n f g) (hn : n ≤ 64) (hm : MayHits l v a n f g) : Calls Try.prog 14 #[.agg #[.int .i64 k, .int .i64 l, .int .i64 v, .int .i64 b], .agg #[.int .i64 a, .int .i64 0, .slice sa 0 sc, .slice ha n hc]] w fun e w' => e = .returned (.bool true) ∧ Below w.heap.size w w' := by
  have CK := Lib.hid (fun u => rCheck_yes k l v b u h.p)
  have TK := Lib.hid (fun u => rTime_yes a u a1 a2)
  obtain ⟨l1, l2, v1, v2⟩ := h.bd
  have tk : (k != 4) = false := by simp [h.k4]
  have HH := Lib.hid hh
  have HM := Lib.hid hm
  have e1 : IntKind.i64.wrap (a - v) = a - v := wrap_i (by omega) (by omega)
  have HP := Lib.hid (PC.made w k l v b a 0 (.slice sa 0 sc) (.slice ha n hc) 23 27)
  clear h hm hh
  go_enter Try.func14, Try.ntmps14
  go_wp2_with fail
  refine (CK.out _).mono ?_; rintro e w1 ⟨rfl, hb⟩
  have H1 := Lib.hid (HP.out.step hb)
  clear hb HP
  obtain ⟨z0, z1, z2, z3, z4, z5, z6, z7⟩ := H1.out.eight
  go_wp2_with fail
  refine (TK.out _).mono ?_; rintro e w' ⟨rfl, rfl⟩
  go_wp2_with fail
  clear z0 z1 z2 z3 z4 z5 z6 z7
  go_loopw [5, 6] (fun vn vi wr => ∃ i : Nat, i ≤ n ∧ vi = .int .i64 (i : Int) ∧ vn = .int .i64 (sumF g i) ∧ Hid (GoodD l v a f g i) ∧ PC w k l v b a 0 (.slice sa 0 sc) (.slice ha n hc) wr) (fun _ vi _ => n - (intOf vi).toNat)
  case atStart => exact ⟨0, Nat.zero_le _, rfl, rfl, Lib.hid (fun j hj => absurd hj (by omega)), H1.out⟩
  case round =>
    obtain ⟨i, hi, rfl, rfl, HG, hr⟩ := hrel
    have R1 := Lib.hid hr
    clear hr H1
    obtain ⟨c1, c2⟩ := HG.out.sum l2
    obtain ⟨z0, z1, z2, z3, z4, z5, z6, z7⟩ := R1.out.eight
    by_cases hlt : i < n
    · obtain ⟨b1, o1, rfl, hl, hc'⟩ := HH.out (by omega)
      have q1 := (R1.out.be.cell (p := ⟨b1, o1 + i * 2, none⟩) hl).trans (hc' i hlt).1
      have q2 := (R1.out.be.cell (p := ⟨b1, o1 + i * 2 + 1, none⟩) hl).trans (hc' i hlt).2
      have hb1 : b1 < wr.heap.size := Nat.lt_of_lt_of_le hl R1.out.be.size
      have HS := Lib.hid (show sumF g (i + 1) = sumF g i + g i from rfl)
      have HN := Lib.hid (fun h1 h2 h3 h4 h5 h6 => HG.out.next (i := i) h1 h2 h3 h4 h5 h6)
      have RP := Lib.hid (R1.out.alloc (.cells #[.int .i64 (f i), .int .i64 (g i)] 50))
      have QP := Lib.hid (fun (p : Nat) (hp : p < n) => (R1.out.be.cell (p := ⟨b1, o1 + p * 2, none⟩) hl).trans (hc' p hp).1)
      have lt1 : w.heap.size + 1 < wr.heap.size := R1.out.sz
      have lt0 : w.heap.size < wr.heap.size := by omega
      clear hc'
      obtain ⟨y, hy⟩ : ∃ y, f i = y := ⟨_, rfl⟩
      obtain ⟨x, hx⟩ : ∃ x, g i = x := ⟨_, rfl⟩
      obtain ⟨s, hs⟩ : ∃ s, sumF g i = s := ⟨_, rfl⟩
      have EX := Lib.hid hy
      have EY := Lib.hid hx
      rw [hy, hx] at RP
      rw [hy] at q1
      rw [hx] at q2
      rw [hx, hs] at HS
      rw [hy, hx] at HN
      rw [hs] at c1 c2 ⊢
      clear hy hx hs
      have B0 : (0 : Int) ≤ (i : Int) := by omega
      have B1 : (i : Int) < (n : Int) := by omega
      by_cases t1 : y < 0
      · have d1 : decide (y < 0) = true := by simp; omega
        exfalso
        have q := HM.out.goodD i hlt
        have e1 := EX.out
        have e2 := EY.out
        rw [e1, e2] at q
        omega
      · have d1 : decide (y < 0) = false := by simp; omega
        by_cases t2 : a < y
        · have d2 : decide (a < y) = true := by simp; omega
          exfalso
          have q := HM.out.goodD i hlt
          have e1 := EX.out
          have e2 := EY.out
          rw [e1, e2] at q
          omega
        · have d2 : decide (a < y) = false := by simp; omega
          by_cases t3 : y ≤ a - v
          · have d3 : decide (y ≤ a - v) = true := by simp; omega
            exfalso
            have q := HM.out.goodD i hlt
            have e1 := EX.out
            have e2 := EY.out
            rw [e1, e2] at q
            omega
          · have d3 : decide (y ≤ a - v) = false := by simp; omega
            by_cases i0 : i = 0
            · have d4 : decide (0 < (i : Int)) = false := by simp; omega
              have d4' : decide (0 < i) = false := by simp; omega
              have I0 := Lib.hid i0
              clear i0
              by_cases t5 : x < 1
              · have d5 : decide (x < 1) = true := by simp; omega
                exfalso
                have q := HM.out.goodD i hlt
                have e1 := EX.out
                have e2 := EY.out
                rw [e1, e2] at q
                omega
              · have d5 : decide (x < 1) = false := by simp; omega
                by_cases t6 : l < x
                · have d6 : decide (l < x) = true := by simp; omega
                  exfalso
                  have q := HM.out.goodD i hlt
                  have e1 := EX.out
                  have e2 := EY.out
                  rw [e1, e2] at q
                  omega
                · have d6 : decide (l < x) = false := by simp; omega
                  have GN := Lib.hid (HN.out (by omega) (by omega) (by omega) (fun q => by have := I0.out; omega) (by omega) (by omega))
                  have u5 : 1 ≤ x := by omega
                  have u6 : x ≤ l := by omega
                  have e3 : IntKind.i64.wrap (s + x) = s + x := wrap_i (by omega) (by omega)
                  clear t5 t6
                  go_wp2_with fail
                  go_quiet (fail)
                  go_wp2_with fail
                  go_roundw
                  case rel => exact ⟨i + 1, by omega, by go_num, by rw [HS.out], GN, RP.out.drewN nq⟩
                  case measure => simp [intOf]; omega
            · have d4 : decide (0 < (i : Int)) = true := by simp; omega
              have d4' : decide (0 < i) = true := by first | (simp; omega) | (simp; exact Nat.pos_of_ne_zero i0)
              obtain ⟨p, hip⟩ : ∃ p, i = p + 1 := ⟨i - 1, by omega⟩
              have q3 := QP.out p (by omega)
              obtain ⟨yp, hyp⟩ : ∃ yp, f p = yp := ⟨_, rfl⟩
              have EP' := Lib.hid (show f (i - 1) = yp by rw [show i - 1 = p by omega]; exact hyp)
              rw [hyp] at q3
              clear hyp
              have ei : IntKind.i64.wrap ((i : Int) - 1) = (p : Int) := by rw [show (i : Int) - 1 = (p : Int) by omega]; exact wrap_i (by omega) (by omega)
              have BP0 : (0 : Int) ≤ (p : Int) := by omega
              have BP1 : (p : Int) < (n : Int) := by omega
              clear hip
              by_cases t4 : y ≤ yp
              · have d7 : decide (y ≤ yp) = true := by simp; omega
                exfalso
                have q := (HM.out.goodD i hlt).2.2.2.2.2 (by omega)
                have e1 := EX.out
                have e3 := EP'.out
                rw [e1, e3] at q
                omega
              · have d7 : decide (y ≤ yp) = false := by simp; omega
                by_cases t5 : x < 1
                · have d5 : decide (x < 1) = true := by simp; omega
                  exfalso
                  have q := HM.out.goodD i hlt
                  have e1 := EX.out
                  have e2 := EY.out
                  rw [e1, e2] at q
                  omega
                · have d5 : decide (x < 1) = false := by simp; omega
                  by_cases t6 : l < x
                  · have d6 : decide (l < x) = true := by simp; omega
                    exfalso
                    have q := HM.out.goodD i hlt
                    have e1 := EX.out
                    have e2 := EY.out
                    rw [e1, e2] at q
                    omega
                  · have d6 : decide (l < x) = false := by simp; omega
                    have GN := Lib.hid (HN.out (by omega) (by omega) (by omega) (fun _ => by rw [EP'.out]; omega) (by omega) (by omega))
                    have u5 : 1 ≤ x := by omega
                    have u6 : x ≤ l := by omega
                    have e3 : IntKind.i64.wrap (s + x) = s + x := wrap_i (by omega) (by omega)
                    clear t5 t6
                    go_wp2_with fail
                    go_quiet (fail)
                    go_wp2_with fail
                    go_roundw
                    case rel => exact ⟨i + 1, by omega, by go_num, by rw [HS.out], GN, RP.out.drewN nq⟩
                    case measure => simp [intOf]; omega
    · have e : i = n := by omega
      subst e
      have E := HM.out.all
      generalize sumF g i = s at *
      have y5 : decide (s ≤ l) = true := by simp; omega
      go_wp2_with fail
      go_ret
      exact ⟨rfl, R1.out.be⟩

set_option maxRecDepth 100000 in
set_option maxHeartbeats 4000000 in
theorem rMay_h (k l v b a : Int) (sa ha : Option Addr) (sc n hc : Nat) (f g : Nat → Int) (w : World) (h : EP k l v b) (a1 : 0 ≤ a) (a2 : a ≤ 1099511627776) (hh : HitsAt w ha n f g) (hn : n ≤ 64) (hm : ¬ MayHits l v a n f g) : Calls Try.prog 14 #[.agg #[.int .i64 k, .int .i64 l, .int .i64 v, .int .i64 b], .agg #[.int .i64 a, .int .i64 0, .slice sa 0 sc, .slice ha n hc]] w fun e w' => e = .returned (.bool false) ∧ Below w.heap.size w w' := by
  have CK := Lib.hid (fun u => rCheck_yes k l v b u h.p)
  have TK := Lib.hid (fun u => rTime_yes a u a1 a2)
  obtain ⟨l1, l2, v1, v2⟩ := h.bd
  have tk : (k != 4) = false := by simp [h.k4]
  have HH := Lib.hid hh
  have HM := Lib.hid hm
  have e1 : IntKind.i64.wrap (a - v) = a - v := wrap_i (by omega) (by omega)
  have HP := Lib.hid (PC.made w k l v b a 0 (.slice sa 0 sc) (.slice ha n hc) 23 27)
  clear h hm hh
  go_enter Try.func14, Try.ntmps14
  go_wp2_with fail
  refine (CK.out _).mono ?_; rintro e w1 ⟨rfl, hb⟩
  have H1 := Lib.hid (HP.out.step hb)
  clear hb HP
  obtain ⟨z0, z1, z2, z3, z4, z5, z6, z7⟩ := H1.out.eight
  go_wp2_with fail
  refine (TK.out _).mono ?_; rintro e w' ⟨rfl, rfl⟩
  go_wp2_with fail
  clear z0 z1 z2 z3 z4 z5 z6 z7
  go_loopw [5, 6] (fun vn vi wr => ∃ i : Nat, i ≤ n ∧ vi = .int .i64 (i : Int) ∧ vn = .int .i64 (sumF g i) ∧ Hid (GoodD l v a f g i) ∧ PC w k l v b a 0 (.slice sa 0 sc) (.slice ha n hc) wr) (fun _ vi _ => n - (intOf vi).toNat)
  case atStart => exact ⟨0, Nat.zero_le _, rfl, rfl, Lib.hid (fun j hj => absurd hj (by omega)), H1.out⟩
  case round =>
    obtain ⟨i, hi, rfl, rfl, HG, hr⟩ := hrel
    have R1 := Lib.hid hr
    clear hr H1
    obtain ⟨c1, c2⟩ := HG.out.sum l2
    obtain ⟨z0, z1, z2, z3, z4, z5, z6, z7⟩ := R1.out.eight
    by_cases hlt : i < n
    · obtain ⟨b1, o1, rfl, hl, hc'⟩ := HH.out (by omega)
      have q1 := (R1.out.be.cell (p := ⟨b1, o1 + i * 2, none⟩) hl).trans (hc' i hlt).1
      have q2 := (R1.out.be.cell (p := ⟨b1, o1 + i * 2 + 1, none⟩) hl).trans (hc' i hlt).2
      have hb1 : b1 < wr.heap.size := Nat.lt_of_lt_of_le hl R1.out.be.size
      have HS := Lib.hid (show sumF g (i + 1) = sumF g i + g i from rfl)
      have HN := Lib.hid (fun h1 h2 h3 h4 h5 h6 => HG.out.next (i := i) h1 h2 h3 h4 h5 h6)
      have RP := Lib.hid (R1.out.alloc (.cells #[.int .i64 (f i), .int .i64 (g i)] 50))
      have QP := Lib.hid (fun (p : Nat) (hp : p < n) => (R1.out.be.cell (p := ⟨b1, o1 + p * 2, none⟩) hl).trans (hc' p hp).1)
      have lt1 : w.heap.size + 1 < wr.heap.size := R1.out.sz
      have lt0 : w.heap.size < wr.heap.size := by omega
      clear hc'
      obtain ⟨y, hy⟩ : ∃ y, f i = y := ⟨_, rfl⟩
      obtain ⟨x, hx⟩ : ∃ x, g i = x := ⟨_, rfl⟩
      obtain ⟨s, hs⟩ : ∃ s, sumF g i = s := ⟨_, rfl⟩
      have EX := Lib.hid hy
      have EY := Lib.hid hx
      rw [hy, hx] at RP
      rw [hy] at q1
      rw [hx] at q2
      rw [hx, hs] at HS
      rw [hy, hx] at HN
      rw [hs] at c1 c2 ⊢
      clear hy hx hs
      have B0 : (0 : Int) ≤ (i : Int) := by omega
      have B1 : (i : Int) < (n : Int) := by omega
      by_cases t1 : y < 0
      · have d1 : decide (y < 0) = true := by simp; omega
        go_wp2_with fail
        go_quiet (fail)
        go_wp2_with fail
        go_ret
        exact ⟨rfl, (RP.out.drewN nq).be⟩
      · have d1 : decide (y < 0) = false := by simp; omega
        by_cases t2 : a < y
        · have d2 : decide (a < y) = true := by simp; omega
          go_wp2_with fail
          go_quiet (fail)
          go_wp2_with fail
          go_ret
          exact ⟨rfl, (RP.out.drewN nq).be⟩
        · have d2 : decide (a < y) = false := by simp; omega
          by_cases t3 : y ≤ a - v
          · have d3 : decide (y ≤ a - v) = true := by simp; omega
            go_wp2_with fail
            go_quiet (fail)
            go_wp2_with fail
            go_ret
            exact ⟨rfl, (RP.out.drewN nq).be⟩
          · have d3 : decide (y ≤ a - v) = false := by simp; omega
            by_cases i0 : i = 0
            · have d4 : decide (0 < (i : Int)) = false := by simp; omega
              have d4' : decide (0 < i) = false := by simp; omega
              have I0 := Lib.hid i0
              clear i0
              by_cases t5 : x < 1
              · have d5 : decide (x < 1) = true := by simp; omega
                go_wp2_with fail
                go_quiet (fail)
                go_wp2_with fail
                go_ret
                exact ⟨rfl, (RP.out.drewN nq).be⟩
              · have d5 : decide (x < 1) = false := by simp; omega
                by_cases t6 : l < x
                · have d6 : decide (l < x) = true := by simp; omega
                  go_wp2_with fail
                  go_quiet (fail)
                  go_wp2_with fail
                  go_ret
                  exact ⟨rfl, (RP.out.drewN nq).be⟩
                · have d6 : decide (l < x) = false := by simp; omega
                  have GN := Lib.hid (HN.out (by omega) (by omega) (by omega) (fun q => by have := I0.out; omega) (by omega) (by omega))
                  have u5 : 1 ≤ x := by omega
                  have u6 : x ≤ l := by omega
                  have e3 : IntKind.i64.wrap (s + x) = s + x := wrap_i (by omega) (by omega)
                  clear t5 t6
                  go_wp2_with fail
                  go_quiet (fail)
                  go_wp2_with fail
                  go_roundw
                  case rel => exact ⟨i + 1, by omega, by go_num, by rw [HS.out], GN, RP.out.drewN nq⟩
                  case measure => simp [intOf]; omega
            · have d4 : decide (0 < (i : Int)) = true := by simp; omega
              have d4' : decide (0 < i) = true := by first | (simp; omega) | (simp; exact Nat.pos_of_ne_zero i0)
              obtain ⟨p, hip⟩ : ∃ p, i = p + 1 := ⟨i - 1, by omega⟩
              have q3 := QP.out p (by omega)
              obtain ⟨yp, hyp⟩ : ∃ yp, f p = yp := ⟨_, rfl⟩
              have EP' := Lib.hid (show f (i - 1) = yp by rw [show i - 1 = p by omega]; exact hyp)
              rw [hyp] at q3
              clear hyp
              have ei : IntKind.i64.wrap ((i : Int) - 1) = (p : Int) := by rw [show (i : Int) - 1 = (p : Int) by omega]; exact wrap_i (by omega) (by omega)
              have BP0 : (0 : Int) ≤ (p : Int) := by omega
              have BP1 : (p : Int) < (n : Int) := by omega
              clear hip
              by_cases t4 : y ≤ yp
              · have d7 : decide (y ≤ yp) = true := by simp; omega
                go_wp2_with fail
                go_quiet (fail)
                go_wp2_with fail
                go_ret
                exact ⟨rfl, (RP.out.drewN nq).be⟩
              · have d7 : decide (y ≤ yp) = false := by simp; omega
                by_cases t5 : x < 1
                · have d5 : decide (x < 1) = true := by simp; omega
                  go_wp2_with fail
                  go_quiet (fail)
                  go_wp2_with fail
                  go_ret
                  exact ⟨rfl, (RP.out.drewN nq).be⟩
                · have d5 : decide (x < 1) = false := by simp; omega
                  by_cases t6 : l < x
                  · have d6 : decide (l < x) = true := by simp; omega
                    go_wp2_with fail
                    go_quiet (fail)
                    go_wp2_with fail
                    go_ret
                    exact ⟨rfl, (RP.out.drewN nq).be⟩
                  · have d6 : decide (l < x) = false := by simp; omega
                    have GN := Lib.hid (HN.out (by omega) (by omega) (by omega) (fun _ => by rw [EP'.out]; omega) (by omega) (by omega))
                    have u5 : 1 ≤ x := by omega
                    have u6 : x ≤ l := by omega
                    have e3 : IntKind.i64.wrap (s + x) = s + x := wrap_i (by omega) (by omega)
                    clear t5 t6
                    go_wp2_with fail
                    go_quiet (fail)
                    go_wp2_with fail
                    go_roundw
                    case rel => exact ⟨i + 1, by omega, by go_num, by rw [HS.out], GN, RP.out.drewN nq⟩
                    case measure => simp [intOf]; omega
    · have e : i = n := by omega
      subst e
      have E : l < sumF g i := by
        rcases Int.lt_or_le l (sumF g i) with q | q
        · exact q
        · exact absurd (HG.out.all q) HM.out
      generalize sumF g i = s at *
      have y5 : decide (s ≤ l) = false := by simp; omega
      go_wp2_with fail
      go_ret
      exact ⟨rfl, R1.out.be⟩
theorem May_no (k l v b a m : Int) (sa ha : Option Addr) (sn sc n hc : Nat) (w : World) (f g : Nat → Int) (h : ¬ MayE k l v b a m sn n f g) (hx : sn ≤ maxLen) (hx2 : n ≤ 64) (hh : HitsAt w ha n f g) : Calls Try.prog 13 #[.agg #[.int .i64 k, .int .i64 l, .int .i64 v, .int .i64 b], .agg #[.int .i64 a, .int .i64 m, .slice sa sn sc, .slice ha n hc]] w fun e w' => e = .returned (.bool false) ∧ Below w.heap.size w w' := by
  by_cases hp : MayP k l v b
  · by_cases hk : k = 4
    · by_cases ha1 : 0 ≤ a ∧ a ≤ 1099511627776
      · by_cases hn1 : m = 0
        · by_cases hs : sn = 0
          · subst hn1 hs
            exact May_h k l v b a sa ha sc n hc f g w ⟨hp, hk⟩ ha1.1 ha1.2 hh (by unfold maxLen; omega) (fun q => h ⟨⟨hp, hk⟩, ha1.1, ha1.2, rfl, rfl, q⟩)
          · exact May_s k l v b a m sa ha sn sc n hc w hp hk ha1.1 ha1.2 hn1 hs hx
        · exact May_n k l v b a m sa ha sn sc n hc w hp hk ha1.1 ha1.2 hn1
      · exact May_a k l v b a m sa ha sn sc n hc w hp hk ha1
    · exact May_k k l v b a m sa ha sn sc n hc w hp hk
  · exact May_p k l v b a m sa ha sn sc n hc w hp
theorem rMay_no (k l v b a m : Int) (sa ha : Option Addr) (sn sc n hc : Nat) (w : World) (f g : Nat → Int) (h : ¬ MayE k l v b a m sn n f g) (hx : sn ≤ maxLen) (hx2 : n ≤ 64) (hh : HitsAt w ha n f g) : Calls Try.prog 14 #[.agg #[.int .i64 k, .int .i64 l, .int .i64 v, .int .i64 b], .agg #[.int .i64 a, .int .i64 m, .slice sa sn sc, .slice ha n hc]] w fun e w' => e = .returned (.bool false) ∧ Below w.heap.size w w' := by
  by_cases hp : MayP k l v b
  · by_cases hk : k = 4
    · by_cases ha1 : 0 ≤ a ∧ a ≤ 1099511627776
      · by_cases hn1 : m = 0
        · by_cases hs : sn = 0
          · subst hn1 hs
            exact rMay_h k l v b a sa ha sc n hc f g w ⟨hp, hk⟩ ha1.1 ha1.2 hh hx2 (fun q => h ⟨⟨hp, hk⟩, ha1.1, ha1.2, rfl, rfl, q⟩)
          · exact rMay_s k l v b a m sa ha sn sc n hc w hp hk ha1.1 ha1.2 hn1 hs hx
        · exact rMay_n k l v b a m sa ha sn sc n hc w hp hk ha1.1 ha1.2 hn1
      · exact rMay_a k l v b a m sa ha sn sc n hc w hp hk ha1
    · exact rMay_k k l v b a m sa ha sn sc n hc w hp hk
  · exact rMay_p k l v b a m sa ha sn sc n hc w hp
end Go.Proofs.Ytgdcgilhaedbmaa
