/- Exact's asks that are refused, totals and ends; what an ask tells, in one. WRITTEN BY gen_ex13.py. -/
import Derived.Test.YtgdcgilhaedbmaaEx11
import Derived.Test.YtgdcgilhaedbmaaEx12
-- prune
namespace Go.Proofs.Ytgdcgilhaedbmaa
open Go.ChangeShapes Go.WideShapes Go.ChangeAt Go.RowKit
set_option linter.unusedVariables false

theorem MayE.yes {k l v b a n : Int} {sa ha : Option Addr} {sn sc hn hc : Nat} {f g : Nat → Int} (h : MayE k l v b a n sn hn f g) (w : World) (hf : HitsAt w ha hn f g) : Calls Try.prog 13 #[.agg #[.int .i64 k, .int .i64 l, .int .i64 v, .int .i64 b], .agg #[.int .i64 a, .int .i64 n, .slice sa sn sc, .slice ha hn hc]] w fun e w' => e = .returned (.bool true) ∧ Below w.heap.size w w' := by
  obtain ⟨h1, h2, h3, rfl, rfl, h6⟩ := h
  have := h6.len
  have := h1.bd
  exact May_yes k l v b a sa ha sc hn hc f g w h1 h2 h3 hf (by unfold maxLen; omega) h6
theorem MayE.ryes {k l v b a n : Int} {sa ha : Option Addr} {sn sc hn hc : Nat} {f g : Nat → Int} (h : MayE k l v b a n sn hn f g) (w : World) (hf : HitsAt w ha hn f g) : Calls Try.prog 14 #[.agg #[.int .i64 k, .int .i64 l, .int .i64 v, .int .i64 b], .agg #[.int .i64 a, .int .i64 n, .slice sa sn sc, .slice ha hn hc]] w fun e w' => e = .returned (.bool true) ∧ Below w.heap.size w w' := by
  obtain ⟨h1, h2, h3, rfl, rfl, h6⟩ := h
  have := h6.len
  have := h1.bd
  exact rMay_yes k l v b a sa ha sc hn hc f g w h1 h2 h3 hf (by omega) h6
theorem AskAt.put {w0 w : World} {k l v b a n : Int} {x y : Value} (h : AskAt w0 k l v b a n x y w) (c0 c1 c2 c3 v0 v1 v2 v3 : Value) :
    Below w0.heap.size w0 ((((((((w.setCell ⟨w0.heap.size + 1 + 1, 0, none⟩ c0).setCell ⟨w0.heap.size + 1 + 1, 1, none⟩ c1).setCell ⟨w0.heap.size + 1 + 1, 2, none⟩ c2).setCell ⟨w0.heap.size + 1 + 1, 3, none⟩ c3).setCell ⟨w0.heap.size + 1 + 1 + 1, 0, none⟩ v0).setCell ⟨w0.heap.size + 1 + 1 + 1, 1, none⟩ v1).setCell ⟨w0.heap.size + 1 + 1 + 1, 2, none⟩ v2).setCell ⟨w0.heap.size + 1 + 1 + 1, 3, none⟩ v3) :=
  (((((((h.pc.be.setCell (p := ⟨_, 0, none⟩) (le2 _) _).setCell (p := ⟨_, 1, none⟩) (le2 _) _).setCell (p := ⟨_, 2, none⟩) (le2 _) _).setCell (p := ⟨_, 3, none⟩) (le2 _) _).setCell (p := ⟨_, 0, none⟩) (le3 _) _).setCell (p := ⟨_, 1, none⟩) (le3 _) _).setCell (p := ⟨_, 2, none⟩) (le3 _) _).setCell (p := ⟨_, 3, none⟩) (le3 _) _

set_option maxRecDepth 100000 in
set_option maxHeartbeats 4000000 in
theorem Ask_n0 (k l v b a n : Int) (sa ha : Option Addr) (sn sc hn hc : Nat) (f g : Nat → Int) (t m : Int) (w : World) (h : ¬ MayE k l v b a n sn hn f g) (hx : sn ≤ maxLen) (hx2 : hn ≤ 60) (hf : HitsAt w ha hn f g) :
    Calls Try.prog 10 #[.agg #[.int .i64 k, .int .i64 l, .int .i64 v, .int .i64 b], .agg #[.int .i64 a, .int .i64 n, .slice sa sn sc, .slice ha hn hc], .int .i64 t, .int .i64 m] w fun e w' => e = .returned (.tuple #[.agg #[.int .i64 a, .int .i64 n, .slice sa sn sc, .slice ha hn hc], .agg #[.bool false, .int .i64 0, .int .i64 0, .int .i64 0]]) ∧ Below w.heap.size w w' := by
  have MK := Lib.hid (fun u (hu : Below w.heap.size w u) => May_no k l v b a n sa ha sn sc hn hc u f g h hx (by omega) (hf.below hu))
  have HP := Lib.hid (AskAt.made w k l v b a n (.slice sa sn sc) (.slice ha hn hc))
  clear h hf
  go_enter Try.func10, Try.ntmps10
  go_wp2_with fail
  refine (MK.out _ HP.out.pc.be).mono ?_; rintro e w1 ⟨rfl, hb⟩
  have HQ := Lib.hid (HP.out.step hb)
  obtain ⟨z0, z1, z2, z3, z4, z5, z6, z7⟩ := HQ.out.pc.eight
  obtain ⟨r0, r1, r2, r3, r4, r5, r6, r7, r8, r9⟩ := HQ.out.res
  clear hb HP MK
  go_wp2_with fail
  exact bodyPost_ret (v := .tuple #[.agg #[.int .i64 a, .int .i64 n, .slice sa sn sc, .slice ha hn hc], .agg #[.bool false, .int .i64 0, .int .i64 0, .int .i64 0]]) (by simp [results, Try.results10, go_sem, r0, r1, r2, r3, r4, r5, r6, r7]) rfl ⟨rfl, HQ.out.put _ _ _ _ _ _ _ _⟩

set_option maxRecDepth 100000 in
set_option maxHeartbeats 4000000 in
theorem Ask_n1 (k l v b a n : Int) (sa ha : Option Addr) (sn sc hn hc : Nat) (f g : Nat → Int) (t m : Int) (w : World) (h : MayE k l v b a n sn hn f g) (ht : ¬ (0 ≤ t ∧ t ≤ 1099511627776)) (hx : sn ≤ maxLen) (hx2 : hn ≤ 60) (hf : HitsAt w ha hn f g) :
    Calls Try.prog 10 #[.agg #[.int .i64 k, .int .i64 l, .int .i64 v, .int .i64 b], .agg #[.int .i64 a, .int .i64 n, .slice sa sn sc, .slice ha hn hc], .int .i64 t, .int .i64 m] w fun e w' => e = .returned (.tuple #[.agg #[.int .i64 a, .int .i64 n, .slice sa sn sc, .slice ha hn hc], .agg #[.bool false, .int .i64 0, .int .i64 0, .int .i64 0]]) ∧ Below w.heap.size w w' := by
  have MK := Lib.hid (fun u (hu : Below w.heap.size w u) => h.yes (sa := sa) (sc := sc) (hc := hc) (ha := ha) u (hf.below hu))
  have TK := Lib.hid (fun u => isTick_no t u ht)
  clear ht
  have HP := Lib.hid (AskAt.made w k l v b a n (.slice sa sn sc) (.slice ha hn hc))
  clear h hf
  go_enter Try.func10, Try.ntmps10
  go_wp2_with fail
  refine (MK.out _ HP.out.pc.be).mono ?_; rintro e w1 ⟨rfl, hb⟩
  have HQ := Lib.hid (HP.out.step hb)
  obtain ⟨z0, z1, z2, z3, z4, z5, z6, z7⟩ := HQ.out.pc.eight
  obtain ⟨r0, r1, r2, r3, r4, r5, r6, r7, r8, r9⟩ := HQ.out.res
  clear hb HP MK
  go_wp2_with fail
  refine (TK.out _).mono ?_; rintro e w' ⟨rfl, rfl⟩
  go_wp2_with fail
  exact bodyPost_ret (v := .tuple #[.agg #[.int .i64 a, .int .i64 n, .slice sa sn sc, .slice ha hn hc], .agg #[.bool false, .int .i64 0, .int .i64 0, .int .i64 0]]) (by simp [results, Try.results10, go_sem, r0, r1, r2, r3, r4, r5, r6, r7]) rfl ⟨rfl, HQ.out.put _ _ _ _ _ _ _ _⟩

set_option maxRecDepth 100000 in
set_option maxHeartbeats 4000000 in
theorem Ask_n2 (k l v b a n : Int) (sa ha : Option Addr) (sn sc hn hc : Nat) (f g : Nat → Int) (t m : Int) (w : World) (h : MayE k l v b a n sn hn f g) (t1 : 0 ≤ t) (t2 : t ≤ 1099511627776) (hw : ¬ (1 ≤ m ∧ m ≤ 1048576)) (hx : sn ≤ maxLen) (hx2 : hn ≤ 60) (hf : HitsAt w ha hn f g) :
    Calls Try.prog 10 #[.agg #[.int .i64 k, .int .i64 l, .int .i64 v, .int .i64 b], .agg #[.int .i64 a, .int .i64 n, .slice sa sn sc, .slice ha hn hc], .int .i64 t, .int .i64 m] w fun e w' => e = .returned (.tuple #[.agg #[.int .i64 a, .int .i64 n, .slice sa sn sc, .slice ha hn hc], .agg #[.bool false, .int .i64 0, .int .i64 0, .int .i64 0]]) ∧ Below w.heap.size w w' := by
  have MK := Lib.hid (fun u (hu : Below w.heap.size w u) => h.yes (sa := sa) (sc := sc) (hc := hc) (ha := ha) u (hf.below hu))
  have TK := Lib.hid (fun u => isTick_yes t u t1 t2)
  have WK := Lib.hid (fun u => Weighs_no m u hw)
  clear hw
  have HP := Lib.hid (AskAt.made w k l v b a n (.slice sa sn sc) (.slice ha hn hc))
  clear h hf
  go_enter Try.func10, Try.ntmps10
  go_wp2_with fail
  refine (MK.out _ HP.out.pc.be).mono ?_; rintro e w1 ⟨rfl, hb⟩
  have HQ := Lib.hid (HP.out.step hb)
  obtain ⟨z0, z1, z2, z3, z4, z5, z6, z7⟩ := HQ.out.pc.eight
  obtain ⟨r0, r1, r2, r3, r4, r5, r6, r7, r8, r9⟩ := HQ.out.res
  clear hb HP MK
  go_wp2_with fail
  refine (TK.out _).mono ?_; rintro e w' ⟨rfl, rfl⟩
  go_wp2_with fail
  refine (WK.out _).mono ?_; rintro e w' ⟨rfl, rfl⟩
  go_wp2_with fail
  exact bodyPost_ret (v := .tuple #[.agg #[.int .i64 a, .int .i64 n, .slice sa sn sc, .slice ha hn hc], .agg #[.bool false, .int .i64 0, .int .i64 0, .int .i64 0]]) (by simp [results, Try.results10, go_sem, r0, r1, r2, r3, r4, r5, r6, r7]) rfl ⟨rfl, HQ.out.put _ _ _ _ _ _ _ _⟩

set_option maxRecDepth 100000 in
set_option maxHeartbeats 4000000 in
theorem Total_no (k l v b a n : Int) (sa ha : Option Addr) (sn sc hn hc : Nat) (f g : Nat → Int) (t : Int) (w : World) (h : ¬ MayE k l v b a n sn hn f g) (hx : sn ≤ maxLen) (hx2 : hn ≤ 60) (hf : HitsAt w ha hn f g) :
    Calls Try.prog 15 #[.agg #[.int .i64 k, .int .i64 l, .int .i64 v, .int .i64 b], .agg #[.int .i64 a, .int .i64 n, .slice sa sn sc, .slice ha hn hc], .int .i64 t] w fun e w' => e = .returned (.int .i64 0) ∧ Below w.heap.size w w' := by
  have MK := Lib.hid (fun u (hu : Below w.heap.size w u) => May_no k l v b a n sa ha sn sc hn hc u f g h hx (by omega) (hf.below hu))
  have HP := Lib.hid (PC.made w k l v b a n (.slice sa sn sc) (.slice ha hn hc) 23 27)
  clear h hf
  go_enter Try.func15, Try.ntmps15
  go_wp2_with fail
  refine (MK.out _ HP.out.be).mono ?_; rintro e w1 ⟨rfl, hb⟩
  have H1 := Lib.hid (HP.out.step hb)
  clear hb HP MK
  obtain ⟨z0, z1, z2, z3, z4, z5, z6, z7⟩ := H1.out.eight
  go_wp2_with fail
  go_ret
  exact ⟨rfl, H1.out.be⟩

set_option maxRecDepth 100000 in
set_option maxHeartbeats 4000000 in
theorem Total_t (k l v b a n : Int) (sa ha : Option Addr) (sn sc hn hc : Nat) (f g : Nat → Int) (t : Int) (w : World) (h : MayE k l v b a n sn hn f g) (ht : ¬ (0 ≤ t ∧ t ≤ 1099511627776)) (hx : sn ≤ maxLen) (hx2 : hn ≤ 60) (hf : HitsAt w ha hn f g) :
    Calls Try.prog 15 #[.agg #[.int .i64 k, .int .i64 l, .int .i64 v, .int .i64 b], .agg #[.int .i64 a, .int .i64 n, .slice sa sn sc, .slice ha hn hc], .int .i64 t] w fun e w' => e = .returned (.int .i64 0) ∧ Below w.heap.size w w' := by
  have MK := Lib.hid (fun u (hu : Below w.heap.size w u) => h.yes (sa := sa) (sc := sc) (hc := hc) (ha := ha) u (hf.below hu))
  have TK := Lib.hid (fun u => isTick_no t u ht)
  clear ht
  have HP := Lib.hid (PC.made w k l v b a n (.slice sa sn sc) (.slice ha hn hc) 23 27)
  clear h hf
  go_enter Try.func15, Try.ntmps15
  go_wp2_with fail
  refine (MK.out _ HP.out.be).mono ?_; rintro e w1 ⟨rfl, hb⟩
  have H1 := Lib.hid (HP.out.step hb)
  clear hb HP MK
  obtain ⟨z0, z1, z2, z3, z4, z5, z6, z7⟩ := H1.out.eight
  go_wp2_with fail
  refine (TK.out _).mono ?_; rintro e w' ⟨rfl, rfl⟩
  go_wp2_with fail
  go_ret
  exact ⟨rfl, H1.out.be⟩

set_option maxRecDepth 100000 in
set_option maxHeartbeats 4000000 in
theorem Ends_no (k l v b a n : Int) (sa ha : Option Addr) (sn sc hn hc : Nat) (f g : Nat → Int) (w : World) (h : ¬ MayE k l v b a n sn hn f g) (hx : sn ≤ maxLen) (hx2 : hn ≤ 60) (hf : HitsAt w ha hn f g) :
    Calls Try.prog 17 #[.agg #[.int .i64 k, .int .i64 l, .int .i64 v, .int .i64 b], .agg #[.int .i64 a, .int .i64 n, .slice sa sn sc, .slice ha hn hc]] w fun e w' => e = .returned (.int .i64 0) ∧ Below w.heap.size w w' := by
  have MK := Lib.hid (fun u (hu : Below w.heap.size w u) => May_no k l v b a n sa ha sn sc hn hc u f g h hx (by omega) (hf.below hu))
  have HP := Lib.hid (PC.made w k l v b a n (.slice sa sn sc) (.slice ha hn hc) 23 27)
  clear h hf
  go_enter Try.func17, Try.ntmps17
  go_wp2_with fail
  refine (MK.out _ HP.out.be).mono ?_; rintro e w1 ⟨rfl, hb⟩
  have H1 := Lib.hid (HP.out.step hb)
  clear hb HP MK
  obtain ⟨z0, z1, z2, z3, z4, z5, z6, z7⟩ := H1.out.eight
  go_wp2_with fail
  go_ret
  exact ⟨rfl, H1.out.be⟩

set_option maxRecDepth 100000 in
set_option maxHeartbeats 4000000 in
theorem Ends_yes (k l v b a : Int) (sa ha : Option Addr) (sc n hc : Nat) (f g : Nat → Int) (w : World) (h : EP k l v b) (a1 : 0 ≤ a) (a2 : a ≤ 1099511627776) (hm : MayHits l v a n f g) (hh : HitsAt w ha n f g) :
    Calls Try.prog 17 #[.agg #[.int .i64 k, .int .i64 l, .int .i64 v, .int .i64 b], .agg #[.int .i64 a, .int .i64 0, .slice sa 0 sc, .slice ha n hc]] w fun e w' => e = .returned (.int .i64 (a + waitE v f g n a 0)) ∧ Below w.heap.size w w' := by
  obtain ⟨l1, l2, v1, v2⟩ := h.bd
  have hn := hm.len
  have bF : ∀ i, i < n → 0 ≤ f i ∧ f i ≤ 1099511627776 := fun i hi => by have := hm.each i hi; omega
  have bG : ∀ i, i < n → 0 ≤ g i ∧ g i ≤ 1048576 := fun i hi => by have := hm.each i hi; omega
  have MK := Lib.hid (fun u (hu : Below w.heap.size w u) => May_yes k l v b a sa ha sc n hc f g u h a1 a2 (hh.below hu) (by unfold maxLen; omega) hm)
  obtain ⟨W0, q0, q1, _⟩ := wait_spec hm (Int.le_refl 0) v1
  have LV := Lib.hid (fun u (hu : Below w.heap.size w u) => (by have := fits_any k l v b a 0 sa ha sc n hc f g u (hh.below hu) bF bG (by omega) v1 v2; rw [W0] at this; exact this : Calls Try.prog 25 #[.agg #[.int .i64 k, .int .i64 l, .int .i64 v, .int .i64 b], .agg #[.int .i64 a, .int .i64 0, .slice sa 0 sc, .slice ha n hc], .int .i64 0] u fun e w' => e = .returned (.int .i64 (a + waitE v f g n a 0)) ∧ Below u.heap.size u w'))
  have HP := Lib.hid (PC.made w k l v b a 0 (.slice sa 0 sc) (.slice ha n hc) 23 27)
  clear hm hh h bF bG W0
  generalize waitE v f g n a 0 = WV at *
  have e1 : IntKind.i64.wrap (a + WV) = a + WV := wrap_i (by omega) (by omega)
  go_enter Try.func17, Try.ntmps17
  go_wp2_with fail
  refine (MK.out _ HP.out.be).mono ?_; rintro e w1 ⟨rfl, hb⟩
  have H1 := Lib.hid (HP.out.step hb)
  clear hb HP MK
  obtain ⟨z0, z1, z2, z3, z4, z5, z6, z7⟩ := H1.out.eight
  go_wp2_with fail
  refine (LV.out _ H1.out.be).mono ?_; rintro e w2 ⟨rfl, hb⟩
  have H2 := Lib.hid (H1.out.step hb)
  clear hb
  go_wp2_with fail
  go_ret
  exact ⟨rfl, H2.out.be⟩

set_option maxRecDepth 100000 in
set_option maxHeartbeats 4000000 in
theorem Total_T (k l v b a : Int) (sa ha : Option Addr) (sc n hc : Nat) (f g : Nat → Int) (t T : Int) (w : World) (h : EP k l v b) (a1 : 0 ≤ a) (a2 : a ≤ 1099511627776) (hm : MayHits l v a n f g) (hh : HitsAt w ha n f g) (hc1 : n ≤ hc) (hc2 : hc ≤ maxLen) (t1 : 0 ≤ t) (t2 : t ≤ 1099511627776) (hT : tmax t a = T) :
    Calls Try.prog 15 #[.agg #[.int .i64 k, .int .i64 l, .int .i64 v, .int .i64 b], .agg #[.int .i64 a, .int .i64 0, .slice sa 0 sc, .slice ha n hc], .int .i64 t] w fun e w' => e = .returned (.int .i64 (cntE v f g n T)) ∧ Below w.heap.size w w' := by
  obtain ⟨l1, l2, v1, v2⟩ := h.bd
  have hn := hm.len
  have bF : ∀ i, i < n → 0 ≤ f i ∧ f i ≤ 1099511627776 := fun i hi => by have := hm.each i hi; omega
  have bG : ∀ i, i < n → 0 ≤ g i ∧ g i ≤ 1048576 := fun i hi => by have := hm.each i hi; omega
  have MK := Lib.hid (fun u (hu : Below w.heap.size w u) => May_yes k l v b a sa ha sc n hc f g u h a1 a2 (hh.below hu) (by unfold maxLen; omega) hm)
  have TK := Lib.hid (fun u => isTick_yes t u t1 t2)
  have tb : a ≤ T ∧ T ≤ 1099511627776 := by rw [← hT]; unfold tmax; split <;> omega
  have tmm : (t < a ∧ T = a) ∨ (a ≤ t ∧ T = t) := by rw [← hT]; unfold tmax; split <;> omega
  obtain ⟨tb1, tb2⟩ := tb
  have HJ := first_le v T f n
  have CE := cnt_sh (T := T) hm
  have CN := Lib.hid (fun u (hu : Below w.heap.size w u) => counting_any k l v b T ha n hc f g u (hh.below hu) bF (by omega) hc1 hc2 v1 v2)
  have TT := Lib.hid (fun A c u (hu : HitsAt u A (n - firstE v T f 0 n) (sh (firstE v T f 0 n) f) (sh (firstE v T f 0 n) g)) => (by
    have := total_any A _ c _ _ u hu (fun i hi => bG (firstE v T f 0 n + i) (by omega)) (by omega)
    rw [← CE] at this
    exact this : Calls Try.prog 27 #[.slice A (n - firstE v T f 0 n) c] u fun e w' => e = .returned (.int .i64 (cntE v f g n T)) ∧ Below u.heap.size u w'))
  have HP := Lib.hid (PC.made w k l v b a 0 (.slice sa 0 sc) (.slice ha n hc) 23 27)
  clear hm hh h bF bG hT CE
  generalize firstE v T f 0 n = J at *
  generalize cntE v f g n T = RES at *
  go_enter Try.func15, Try.ntmps15
  go_wp2_with fail
  refine (MK.out _ HP.out.be).mono ?_; rintro e w1 ⟨rfl, hb⟩
  have H1 := Lib.hid (HP.out.step hb)
  clear hb HP MK
  obtain ⟨z0, z1, z2, z3, z4, z5, z6, z7⟩ := H1.out.eight
  go_wp2_with fail
  refine (TK.out _).mono ?_; rintro e w' ⟨rfl, rfl⟩
  rcases tmm with ⟨q1, q2⟩ | ⟨q1, q2⟩
  · rw [q2] at CN
    go_wp2_with fail
    refine (CN.out _ H1.out.be).mono ?_; rintro e w2 ⟨A', m', c', rfl, hj, hmc, hcc, hat, hb⟩
    obtain rfl : m' = n - J := by omega
    have H2 := Lib.hid (H1.out.step hb)
    have TQ := Lib.hid (TT.out A' c' w2 hat)
    clear hb hat hj hmc hcc
    go_wp2_with fail
    refine TQ.out.mono ?_; rintro e w3 ⟨rfl, hb⟩
    have H3 := Lib.hid (H2.out.step hb)
    clear hb
    go_wp2_with fail
    go_ret
    exact ⟨rfl, H3.out.be⟩
  · rw [q2] at CN
    go_wp2_with fail
    refine (CN.out _ H1.out.be).mono ?_; rintro e w2 ⟨A', m', c', rfl, hj, hmc, hcc, hat, hb⟩
    obtain rfl : m' = n - J := by omega
    have H2 := Lib.hid (H1.out.step hb)
    have TQ := Lib.hid (TT.out A' c' w2 hat)
    clear hb hat hj hmc hcc
    go_wp2_with fail
    refine TQ.out.mono ?_; rintro e w3 ⟨rfl, hb⟩
    have H3 := Lib.hid (H2.out.step hb)
    clear hb
    go_wp2_with fail
    go_ret
    exact ⟨rfl, H3.out.be⟩

set_option maxRecDepth 100000 in
set_option maxHeartbeats 4000000 in
theorem rAsk_n0 (k l v b a n : Int) (sa ha : Option Addr) (sn sc hn hc : Nat) (f g : Nat → Int) (t m : Int) (w : World) (h : ¬ MayE k l v b a n sn hn f g) (hx : sn ≤ maxLen) (hx2 : hn ≤ 60) (hf : HitsAt w ha hn f g) :
    Calls Try.prog 11 #[.agg #[.int .i64 k, .int .i64 l, .int .i64 v, .int .i64 b], .agg #[.int .i64 a, .int .i64 n, .slice sa sn sc, .slice ha hn hc], .int .i64 t, .int .i64 m] w fun e w' => e = .returned (.tuple #[.agg #[.int .i64 a, .int .i64 n, .slice sa sn sc, .slice ha hn hc], .agg #[.bool false, .int .i64 0, .int .i64 0, .int .i64 0]]) ∧ Below w.heap.size w w' := by
  have MK := Lib.hid (fun u (hu : Below w.heap.size w u) => rMay_no k l v b a n sa ha sn sc hn hc u f g h hx (by omega) (hf.below hu))
  have HP := Lib.hid (AskAt.made w k l v b a n (.slice sa sn sc) (.slice ha hn hc))
  clear h hf
  go_enter Try.func11, Try.ntmps11
  go_wp2_with fail
  refine (MK.out _ HP.out.pc.be).mono ?_; rintro e w1 ⟨rfl, hb⟩
  have HQ := Lib.hid (HP.out.step hb)
  obtain ⟨z0, z1, z2, z3, z4, z5, z6, z7⟩ := HQ.out.pc.eight
  obtain ⟨r0, r1, r2, r3, r4, r5, r6, r7, r8, r9⟩ := HQ.out.res
  clear hb HP MK
  go_wp2_with fail
  exact bodyPost_ret (v := .tuple #[.agg #[.int .i64 a, .int .i64 n, .slice sa sn sc, .slice ha hn hc], .agg #[.bool false, .int .i64 0, .int .i64 0, .int .i64 0]]) (by simp [results, Try.results11, go_sem, r0, r1, r2, r3, r4, r5, r6, r7]) rfl ⟨rfl, HQ.out.put _ _ _ _ _ _ _ _⟩

set_option maxRecDepth 100000 in
set_option maxHeartbeats 4000000 in
theorem rAsk_n1 (k l v b a n : Int) (sa ha : Option Addr) (sn sc hn hc : Nat) (f g : Nat → Int) (t m : Int) (w : World) (h : MayE k l v b a n sn hn f g) (ht : ¬ (0 ≤ t ∧ t ≤ 1099511627776)) (hx : sn ≤ maxLen) (hx2 : hn ≤ 60) (hf : HitsAt w ha hn f g) :
    Calls Try.prog 11 #[.agg #[.int .i64 k, .int .i64 l, .int .i64 v, .int .i64 b], .agg #[.int .i64 a, .int .i64 n, .slice sa sn sc, .slice ha hn hc], .int .i64 t, .int .i64 m] w fun e w' => e = .returned (.tuple #[.agg #[.int .i64 a, .int .i64 n, .slice sa sn sc, .slice ha hn hc], .agg #[.bool false, .int .i64 0, .int .i64 0, .int .i64 0]]) ∧ Below w.heap.size w w' := by
  have MK := Lib.hid (fun u (hu : Below w.heap.size w u) => h.ryes (sa := sa) (sc := sc) (hc := hc) (ha := ha) u (hf.below hu))
  have TK := Lib.hid (fun u => rTime_no t u ht)
  clear ht
  have HP := Lib.hid (AskAt.made w k l v b a n (.slice sa sn sc) (.slice ha hn hc))
  clear h hf
  go_enter Try.func11, Try.ntmps11
  go_wp2_with fail
  refine (MK.out _ HP.out.pc.be).mono ?_; rintro e w1 ⟨rfl, hb⟩
  have HQ := Lib.hid (HP.out.step hb)
  obtain ⟨z0, z1, z2, z3, z4, z5, z6, z7⟩ := HQ.out.pc.eight
  obtain ⟨r0, r1, r2, r3, r4, r5, r6, r7, r8, r9⟩ := HQ.out.res
  clear hb HP MK
  go_wp2_with fail
  refine (TK.out _).mono ?_; rintro e w' ⟨rfl, rfl⟩
  go_wp2_with fail
  exact bodyPost_ret (v := .tuple #[.agg #[.int .i64 a, .int .i64 n, .slice sa sn sc, .slice ha hn hc], .agg #[.bool false, .int .i64 0, .int .i64 0, .int .i64 0]]) (by simp [results, Try.results11, go_sem, r0, r1, r2, r3, r4, r5, r6, r7]) rfl ⟨rfl, HQ.out.put _ _ _ _ _ _ _ _⟩

set_option maxRecDepth 100000 in
set_option maxHeartbeats 4000000 in
theorem rAsk_n2 (k l v b a n : Int) (sa ha : Option Addr) (sn sc hn hc : Nat) (f g : Nat → Int) (t m : Int) (w : World) (h : MayE k l v b a n sn hn f g) (t1 : 0 ≤ t) (t2 : t ≤ 1099511627776) (hw : ¬ (1 ≤ m ∧ m ≤ 1048576)) (hx : sn ≤ maxLen) (hx2 : hn ≤ 60) (hf : HitsAt w ha hn f g) :
    Calls Try.prog 11 #[.agg #[.int .i64 k, .int .i64 l, .int .i64 v, .int .i64 b], .agg #[.int .i64 a, .int .i64 n, .slice sa sn sc, .slice ha hn hc], .int .i64 t, .int .i64 m] w fun e w' => e = .returned (.tuple #[.agg #[.int .i64 a, .int .i64 n, .slice sa sn sc, .slice ha hn hc], .agg #[.bool false, .int .i64 0, .int .i64 0, .int .i64 0]]) ∧ Below w.heap.size w w' := by
  have MK := Lib.hid (fun u (hu : Below w.heap.size w u) => h.ryes (sa := sa) (sc := sc) (hc := hc) (ha := ha) u (hf.below hu))
  have TK := Lib.hid (fun u => rTime_yes t u t1 t2)
  have WK := Lib.hid (fun u => rWeighs_no m u hw)
  clear hw
  have HP := Lib.hid (AskAt.made w k l v b a n (.slice sa sn sc) (.slice ha hn hc))
  clear h hf
  go_enter Try.func11, Try.ntmps11
  go_wp2_with fail
  refine (MK.out _ HP.out.pc.be).mono ?_; rintro e w1 ⟨rfl, hb⟩
  have HQ := Lib.hid (HP.out.step hb)
  obtain ⟨z0, z1, z2, z3, z4, z5, z6, z7⟩ := HQ.out.pc.eight
  obtain ⟨r0, r1, r2, r3, r4, r5, r6, r7, r8, r9⟩ := HQ.out.res
  clear hb HP MK
  go_wp2_with fail
  refine (TK.out _).mono ?_; rintro e w' ⟨rfl, rfl⟩
  go_wp2_with fail
  refine (WK.out _).mono ?_; rintro e w' ⟨rfl, rfl⟩
  go_wp2_with fail
  exact bodyPost_ret (v := .tuple #[.agg #[.int .i64 a, .int .i64 n, .slice sa sn sc, .slice ha hn hc], .agg #[.bool false, .int .i64 0, .int .i64 0, .int .i64 0]]) (by simp [results, Try.results11, go_sem, r0, r1, r2, r3, r4, r5, r6, r7]) rfl ⟨rfl, HQ.out.put _ _ _ _ _ _ _ _⟩

set_option maxRecDepth 100000 in
set_option maxHeartbeats 4000000 in
theorem rTotal_no (k l v b a n : Int) (sa ha : Option Addr) (sn sc hn hc : Nat) (f g : Nat → Int) (t : Int) (w : World) (h : ¬ MayE k l v b a n sn hn f g) (hx : sn ≤ maxLen) (hx2 : hn ≤ 60) (hf : HitsAt w ha hn f g) :
    Calls Try.prog 16 #[.agg #[.int .i64 k, .int .i64 l, .int .i64 v, .int .i64 b], .agg #[.int .i64 a, .int .i64 n, .slice sa sn sc, .slice ha hn hc], .int .i64 t] w fun e w' => e = .returned (.int .i64 0) ∧ Below w.heap.size w w' := by
  have MK := Lib.hid (fun u (hu : Below w.heap.size w u) => rMay_no k l v b a n sa ha sn sc hn hc u f g h hx (by omega) (hf.below hu))
  have HP := Lib.hid (PC.made w k l v b a n (.slice sa sn sc) (.slice ha hn hc) 23 27)
  clear h hf
  go_enter Try.func16, Try.ntmps16
  go_wp2_with fail
  refine (MK.out _ HP.out.be).mono ?_; rintro e w1 ⟨rfl, hb⟩
  have H1 := Lib.hid (HP.out.step hb)
  clear hb HP MK
  obtain ⟨z0, z1, z2, z3, z4, z5, z6, z7⟩ := H1.out.eight
  go_wp2_with fail
  go_ret
  exact ⟨rfl, H1.out.be⟩

set_option maxRecDepth 100000 in
set_option maxHeartbeats 4000000 in
theorem rTotal_t (k l v b a n : Int) (sa ha : Option Addr) (sn sc hn hc : Nat) (f g : Nat → Int) (t : Int) (w : World) (h : MayE k l v b a n sn hn f g) (ht : ¬ (0 ≤ t ∧ t ≤ 1099511627776)) (hx : sn ≤ maxLen) (hx2 : hn ≤ 60) (hf : HitsAt w ha hn f g) :
    Calls Try.prog 16 #[.agg #[.int .i64 k, .int .i64 l, .int .i64 v, .int .i64 b], .agg #[.int .i64 a, .int .i64 n, .slice sa sn sc, .slice ha hn hc], .int .i64 t] w fun e w' => e = .returned (.int .i64 0) ∧ Below w.heap.size w w' := by
  have MK := Lib.hid (fun u (hu : Below w.heap.size w u) => h.ryes (sa := sa) (sc := sc) (hc := hc) (ha := ha) u (hf.below hu))
  have TK := Lib.hid (fun u => rTime_no t u ht)
  clear ht
  have HP := Lib.hid (PC.made w k l v b a n (.slice sa sn sc) (.slice ha hn hc) 23 27)
  clear h hf
  go_enter Try.func16, Try.ntmps16
  go_wp2_with fail
  refine (MK.out _ HP.out.be).mono ?_; rintro e w1 ⟨rfl, hb⟩
  have H1 := Lib.hid (HP.out.step hb)
  clear hb HP MK
  obtain ⟨z0, z1, z2, z3, z4, z5, z6, z7⟩ := H1.out.eight
  go_wp2_with fail
  refine (TK.out _).mono ?_; rintro e w' ⟨rfl, rfl⟩
  go_wp2_with fail
  go_ret
  exact ⟨rfl, H1.out.be⟩

set_option maxRecDepth 100000 in
set_option maxHeartbeats 4000000 in
theorem rEnds_no (k l v b a n : Int) (sa ha : Option Addr) (sn sc hn hc : Nat) (f g : Nat → Int) (w : World) (h : ¬ MayE k l v b a n sn hn f g) (hx : sn ≤ maxLen) (hx2 : hn ≤ 60) (hf : HitsAt w ha hn f g) :
    Calls Try.prog 18 #[.agg #[.int .i64 k, .int .i64 l, .int .i64 v, .int .i64 b], .agg #[.int .i64 a, .int .i64 n, .slice sa sn sc, .slice ha hn hc]] w fun e w' => e = .returned (.int .i64 0) ∧ Below w.heap.size w w' := by
  have MK := Lib.hid (fun u (hu : Below w.heap.size w u) => rMay_no k l v b a n sa ha sn sc hn hc u f g h hx (by omega) (hf.below hu))
  have HP := Lib.hid (PC.made w k l v b a n (.slice sa sn sc) (.slice ha hn hc) 23 27)
  clear h hf
  go_enter Try.func18, Try.ntmps18
  go_wp2_with fail
  refine (MK.out _ HP.out.be).mono ?_; rintro e w1 ⟨rfl, hb⟩
  have H1 := Lib.hid (HP.out.step hb)
  clear hb HP MK
  obtain ⟨z0, z1, z2, z3, z4, z5, z6, z7⟩ := H1.out.eight
  go_wp2_with fail
  go_ret
  exact ⟨rfl, H1.out.be⟩

set_option maxRecDepth 100000 in
set_option maxHeartbeats 4000000 in
theorem rEnds_yes (k l v b a : Int) (sa ha : Option Addr) (sc n hc : Nat) (f g : Nat → Int) (w : World) (h : EP k l v b) (a1 : 0 ≤ a) (a2 : a ≤ 1099511627776) (hm : MayHits l v a n f g) (hh : HitsAt w ha n f g) :
    Calls Try.prog 18 #[.agg #[.int .i64 k, .int .i64 l, .int .i64 v, .int .i64 b], .agg #[.int .i64 a, .int .i64 0, .slice sa 0 sc, .slice ha n hc]] w fun e w' => e = .returned (.int .i64 (a + waitE v f g n a 0)) ∧ Below w.heap.size w w' := by
  obtain ⟨l1, l2, v1, v2⟩ := h.bd
  have hn := hm.len
  have bF : ∀ i, i < n → 0 ≤ f i ∧ f i ≤ 1099511627776 := fun i hi => by have := hm.each i hi; omega
  have bG : ∀ i, i < n → 0 ≤ g i ∧ g i ≤ 1048576 := fun i hi => by have := hm.each i hi; omega
  have MK := Lib.hid (fun u (hu : Below w.heap.size w u) => rMay_yes k l v b a sa ha sc n hc f g u h a1 a2 (hh.below hu) (by omega) hm)
  obtain ⟨W0, q0, q1, _⟩ := wait_spec hm (Int.le_refl 0) v1
  have LV := Lib.hid (fun u (hu : Below w.heap.size w u) => wait_any k l v b a 0 ha n hc f g u (hh.below hu) bF bG (by omega) a1 a2 v1 v2)
  have HP := Lib.hid (PC.made w k l v b a 0 (.slice sa 0 sc) (.slice ha n hc) 23 27)
  clear hm hh h bF bG W0
  generalize waitE v f g n a 0 = WV at *
  have e1 : IntKind.i64.wrap (a + WV) = a + WV := wrap_i (by omega) (by omega)
  go_enter Try.func18, Try.ntmps18
  go_wp2_with fail
  refine (MK.out _ HP.out.be).mono ?_; rintro e w1 ⟨rfl, hb⟩
  have H1 := Lib.hid (HP.out.step hb)
  clear hb HP MK
  obtain ⟨z0, z1, z2, z3, z4, z5, z6, z7⟩ := H1.out.eight
  go_wp2_with fail
  go_region_held3 (fun w' => w'.cell? ⟨w.heap.size, 0, none⟩ = some (.int .i64 k) ∧ w'.cell? ⟨w.heap.size, 1, none⟩ = some (.int .i64 l) ∧ w'.cell? ⟨w.heap.size, 2, none⟩ = some (.int .i64 v) ∧ w'.cell? ⟨w.heap.size, 3, none⟩ = some (.int .i64 b) ∧ w'.cell? ⟨w.heap.size + 1, 0, none⟩ = some (.int .i64 a) ∧ w'.cell? ⟨w.heap.size + 1, 1, none⟩ = some (.int .i64 0) ∧ w'.cell? ⟨w.heap.size + 1, 2, none⟩ = some (.slice sa 0 sc) ∧ w'.cell? ⟨w.heap.size + 1, 3, none⟩ = some (.slice ha n hc)) (first | (with_reducible exact H1.out.drew.eight) | (with_reducible exact H2.out.eight) | go_keep) (first | (go_at_call 30; (with_reducible refine (LV.out _ H1.out.drew.be).mono ?_); rintro e w2 ⟨rfl, hb⟩; have H2 := Lib.hid (H1.out.drew.step hb); clear hb))
  all_goals (go_wp2_with fail; go_ret; exact ⟨rfl, H2.out.be⟩)

set_option maxRecDepth 100000 in
set_option maxHeartbeats 4000000 in
theorem rTotal_T (k l v b a : Int) (sa ha : Option Addr) (sc n hc : Nat) (f g : Nat → Int) (t T : Int) (w : World) (h : EP k l v b) (a1 : 0 ≤ a) (a2 : a ≤ 1099511627776) (hm : MayHits l v a n f g) (hh : HitsAt w ha n f g) (hc1 : n ≤ hc) (hc2 : hc ≤ maxLen) (t1 : 0 ≤ t) (t2 : t ≤ 1099511627776) (hT : tmax t a = T) :
    Calls Try.prog 16 #[.agg #[.int .i64 k, .int .i64 l, .int .i64 v, .int .i64 b], .agg #[.int .i64 a, .int .i64 0, .slice sa 0 sc, .slice ha n hc], .int .i64 t] w fun e w' => e = .returned (.int .i64 (cntE v f g n T)) ∧ Below w.heap.size w w' := by
  obtain ⟨l1, l2, v1, v2⟩ := h.bd
  have hn := hm.len
  have bF : ∀ i, i < n → 0 ≤ f i ∧ f i ≤ 1099511627776 := fun i hi => by have := hm.each i hi; omega
  have bG : ∀ i, i < n → 0 ≤ g i ∧ g i ≤ 1048576 := fun i hi => by have := hm.each i hi; omega
  have MK := Lib.hid (fun u (hu : Below w.heap.size w u) => rMay_yes k l v b a sa ha sc n hc f g u h a1 a2 (hh.below hu) (by omega) hm)
  have TK := Lib.hid (fun u => rTime_yes t u t1 t2)
  have tb : a ≤ T ∧ T ≤ 1099511627776 := by rw [← hT]; unfold tmax; split <;> omega
  have tmm : (t < a ∧ T = a) ∨ (a ≤ t ∧ T = t) := by rw [← hT]; unfold tmax; split <;> omega
  obtain ⟨tb1, tb2⟩ := tb
  have CN := Lib.hid (fun u (hu : Below w.heap.size w u) => counts_any k l v b T ha n hc f g u (hh.below hu) bG (by omega) (by omega) (by omega) v1 v2)
  have HP := Lib.hid (PC.made w k l v b a 0 (.slice sa 0 sc) (.slice ha n hc) 23 27)
  clear hm hh h bF bG hT
  generalize cntE v f g n T = RES at *
  go_enter Try.func16, Try.ntmps16
  go_wp2_with fail
  refine (MK.out _ HP.out.be).mono ?_; rintro e w1 ⟨rfl, hb⟩
  have H1 := Lib.hid (HP.out.step hb)
  clear hb HP MK
  obtain ⟨z0, z1, z2, z3, z4, z5, z6, z7⟩ := H1.out.eight
  go_wp2_with fail
  refine (TK.out _).mono ?_; rintro e w' ⟨rfl, rfl⟩
  rcases tmm with ⟨q1, q2⟩ | ⟨q1, q2⟩
  · rw [q2] at CN
    go_wp2_with fail
    refine (CN.out _ H1.out.be).mono ?_; rintro e w2 ⟨rfl, hb⟩
    have H2 := Lib.hid (H1.out.step hb)
    clear hb
    go_wp2_with fail
    go_ret
    exact ⟨rfl, H2.out.be⟩
  · rw [q2] at CN
    go_wp2_with fail
    refine (CN.out _ H1.out.be).mono ?_; rintro e w2 ⟨rfl, hb⟩
    have H2 := Lib.hid (H1.out.step hb)
    clear hb
    go_wp2_with fail
    go_ret
    exact ⟨rfl, H2.out.be⟩

/-- What an ask tells: the row, and the verdict. -/
def eJ (v a t : Int) (n : Nat) (f : Nat → Int) : Nat := firstE v (tmax t a) f 0 n
def eL (v a t : Int) (n : Nat) (f : Nat → Int) : Nat := n - eJ v a t n f
def eF0 (v a t : Int) (n : Nat) (f : Nat → Int) : Nat → Int := sh (eJ v a t n f) f
def eG0 (v a t : Int) (n : Nat) (f g : Nat → Int) : Nat → Int := sh (eJ v a t n f) g
def eAl (l v a t m : Int) (n : Nat) (f g : Nat → Int) : Bool := decide (sumF (eG0 v a t n f g) (eL v a t n f) + m ≤ l)
def eSame (v a t : Int) (n : Nat) (f : Nat → Int) : Bool := decide (1 ≤ eL v a t n f ∧ eF0 v a t n f (eL v a t n f - 1) = tmax t a)
def eN (l v a t m : Int) (n : Nat) (f g : Nat → Int) : Nat := if eAl l v a t m n f g = true then if eSame v a t n f = true then eL v a t n f else eL v a t n f + 1 else eL v a t n f
def eF (l v a t m : Int) (n : Nat) (f g : Nat → Int) : Nat → Int := if eAl l v a t m n f g = true then if eSame v a t n f = true then eF0 v a t n f else putF (eF0 v a t n f) (eL v a t n f) (tmax t a) else eF0 v a t n f
def eG (l v a t m : Int) (n : Nat) (f g : Nat → Int) : Nat → Int := if eAl l v a t m n f g = true then if eSame v a t n f = true then putF (eG0 v a t n f g) (eL v a t n f - 1) (eG0 v a t n f g (eL v a t n f - 1) + m) else putF (eG0 v a t n f g) (eL v a t n f) m else eG0 v a t n f g
def eRm (l v a t m : Int) (n : Nat) (f g : Nat → Int) : Int := l - sumF (eG l v a t m n f g) (eN l v a t m n f g)
def eRt (l v a t m : Int) (n : Nat) (f g : Nat → Int) : Int := if eAl l v a t m n f g = true then 0 else if l < m then 2199023255552 else waitE v (eF0 v a t n f) (eG0 v a t n f g) (eL v a t n f) (tmax t a) (l - m)
def eRs (l v a t m : Int) (n : Nat) (f g : Nat → Int) : Int := waitE v (eF l v a t m n f g) (eG l v a t m n f g) (eN l v a t m n f g) (tmax t a) 0
theorem ETold.tells {T : Int} {L : Nat} {F G : Nat → Int} {al : Bool} {rm rt rs : Int} {w w' : World} {e : Ending} (h : ETold T L F G al rm rt rs w e w') (x : Nat → Int) : Tells T 0 0 x L F G al rm rt rs w e w' := by
  obtain ⟨vv, h1, h2, h3⟩ := h
  obtain ⟨A, c, rfl, _, _, h4⟩ := h2.at_
  exact ⟨none, A, 0, c, h1, SumsAt.nil _ _ _, h4, h3⟩
/-- What an ask tells, with the bounds of the told row's capacity. -/
def TellsH (T H : Int) (sn : Nat) (x : Nat → Int) (L : Nat) (F G : Nat → Int) (al : Bool) (rm rt rs : Int) (w : World) (e : Ending) (w' : World) : Prop :=
  ∃ (da ea : Option Addr) (dc ec : Nat), (L ≤ ec ∧ ec ≤ maxLen) ∧ e = .returned (.tuple #[.agg #[.int .i64 T, .int .i64 H, .slice da sn dc, .slice ea L ec], .agg #[.bool al, .int .i64 rm, .int .i64 rt, .int .i64 rs]]) ∧ SumsAt w' da sn x ∧ HitsAt w' ea L F G ∧ Below w.heap.size w w'
theorem TellsH.tells {T H : Int} {sn L : Nat} {x F G : Nat → Int} {al : Bool} {rm rt rs : Int} {w w' : World} {e : Ending} (h : TellsH T H sn x L F G al rm rt rs w e w') : Tells T H sn x L F G al rm rt rs w e w' := by
  obtain ⟨da, ea, dc, ec, _, h1, h2, h3, h4⟩ := h
  exact ⟨da, ea, dc, ec, h1, h2, h3, h4⟩
theorem TellsH.congr {T H : Int} {sn hn : Nat} {f f' g1 g2 g1' g2' : Nat → Int} {al : Bool} {rm rt rs : Int} {w w' : World} {e : Ending} (h : TellsH T H sn f hn g1 g2 al rm rt rs w e w') (e1 : ∀ i, i < sn → f i = f' i) (e2 : ∀ i, i < hn → g1 i = g1' i ∧ g2 i = g2' i) : TellsH T H sn f' hn g1' g2' al rm rt rs w e w' := by
  obtain ⟨da, ea, dc, ec, hc, h1, h2, h3, h4⟩ := h
  exact ⟨da, ea, dc, ec, hc, h1, h2.congr e1, h3.congr e2, h4⟩
theorem ETold.tellsH {T : Int} {L : Nat} {F G : Nat → Int} {al : Bool} {rm rt rs : Int} {w w' : World} {e : Ending} (h : ETold T L F G al rm rt rs w e w') (x : Nat → Int) : TellsH T 0 0 x L F G al rm rt rs w e w' := by
  obtain ⟨vv, h1, h2, h3⟩ := h
  obtain ⟨A, c, rfl, c1, c2, h4⟩ := h2.at_
  exact ⟨none, A, 0, c, ⟨c1, c2⟩, h1, SumsAt.nil _ _ _, h4, h3⟩
theorem etold_eq {P : Nat} {args : Array Value} {w : World} {T : Int} {L L' : Nat} {F F' G G' : Nat → Int} {al al' : Bool} {rm rt rs rm' rt' rs' : Int} (h : Calls Try.prog P args w (ETold T L F G al rm rt rs w)) (eL : L = L') (eF : F = F') (eG : G = G') (e1 : al = al') (e2 : rm = rm') (e3 : rt = rt') (e4 : rs = rs') : Calls Try.prog P args w (ETold T L' F' G' al' rm' rt' rs' w) := by
  subst eL eF eG e1 e2 e3 e4
  exact h
section
variable {k l v b a t m : Int} {n : Nat} {f g : Nat → Int}
theorem tmax_hi {t a : Int} (h : a ≤ t) : tmax t a = t := by unfold tmax; split <;> omega
theorem tmax_bd {t a : Int} : a ≤ tmax t a ∧ t ≤ tmax t a := by unfold tmax; split <;> omega
theorem tmax_tmax (t a : Int) : tmax t (tmax t a) = tmax t a := by
  by_cases h : t ≤ a
  · have e : tmax t a = a := if_pos h
    rw [e, e]
  · have e : tmax t a = t := if_neg h
    rw [e]; unfold tmax; split <;> rfl
theorem may_F0 (hm : MayHits l v a n f g) : MayHits l v (tmax t a) (eL v a t n f) (eF0 v a t n f) (eG0 v a t n f g) := may_sh hm tmax_bd.1
theorem same_iff : eSame v a t n f = true ↔ (1 ≤ eL v a t n f ∧ eF0 v a t n f (eL v a t n f - 1) = tmax t a) := by unfold eSame; simp
theorem al_iff : eAl l v a t m n f g = true ↔ sumF (eG0 v a t n f g) (eL v a t n f) + m ≤ l := by unfold eAl; simp
theorem al_cnt (hm : MayHits l v a n f g) : eAl l v a t m n f g = true ↔ cntE v f g n (tmax t a) + m ≤ l := by rw [al_iff, cnt_sh (T := tmax t a) hm]; rfl
/-- What counts behind an ask. -/
theorem sum_F (hm : MayHits l v a n f g) : sumF (eG l v a t m n f g) (eN l v a t m n f g) = sumF (eG0 v a t n f g) (eL v a t n f) + if eAl l v a t m n f g = true then m else 0 := by
  unfold eG eN
  by_cases e : eAl l v a t m n f g = true
  · rw [if_pos e, if_pos e, if_pos e]
    by_cases q : eSame v a t n f = true
    · rw [if_pos q, if_pos q]; exact sumF_last (same_iff.1 q).1 m
    · rw [if_neg q, if_neg q]; exact sumF_new m
  · rw [if_neg e, if_neg e, if_neg e, Int.add_zero]
theorem may_F (hm : MayHits l v a n f g) (m1 : 1 ≤ m) (a1 : 0 ≤ a) (v1 : 1 ≤ v) : MayHits l v (tmax t a) (eN l v a t m n f g) (eF l v a t m n f g) (eG l v a t m n f g) := by
  have h0 := may_F0 (t := t) hm
  unfold eF eG eN
  by_cases e : eAl l v a t m n f g = true
  · rw [if_pos e, if_pos e, if_pos e]
    by_cases q : eSame v a t n f = true
    · rw [if_pos q, if_pos q, if_pos q]; exact may_last h0 (same_iff.1 q).1 (by omega) (al_iff.1 e)
    · rw [if_neg q, if_neg q, if_neg q]
      refine may_new h0 ?_ m1 (by have := tmax_bd (t := t) (a := a); omega) v1 (al_iff.1 e)
      rcases Nat.eq_zero_or_pos (eL v a t n f) with c | c
      · exact .inl c
      · exact .inr (fun d => q (same_iff.2 ⟨c, d⟩))
  · rw [if_neg e, if_neg e, if_neg e]; exact h0
end

theorem Ask_E0 {k l v b a t m : Int} {sa ha : Option Addr} {sc n hc : Nat} {f g : Nat → Int} (h : EP k l v b) (a1 : 0 ≤ a) (a2 : a ≤ 1099511627776) (hm : MayHits l v a n f g) (w : World) (hh : HitsAt w ha n f g) (hc1 : n ≤ hc) (hc2 : hc ≤ maxLen) (t1 : 0 ≤ t) (t2 : t ≤ 1099511627776) (m1 : 1 ≤ m) (m2 : m ≤ 1048576) :
    Calls Try.prog 10 #[.agg #[.int .i64 k, .int .i64 l, .int .i64 v, .int .i64 b], .agg #[.int .i64 a, .int .i64 0, .slice sa 0 sc, .slice ha n hc], .int .i64 t, .int .i64 m] w (ETold (tmax t a) (eN l v a t m n f g) (eF l v a t m n f g) (eG l v a t m n f g) (eAl l v a t m n f g) (eRm l v a t m n f g) (eRt l v a t m n f g) (eRs l v a t m n f g) w) := by
  obtain ⟨l1, l2, v1, v2⟩ := h.bd
  have hn := hm.len
  have hJ := first_le v (tmax t a) f n
  have tb : tmax t a ≤ 1099511627776 := by unfold tmax; split <;> omega
  have hL : eJ v a t n f + eL v a t n f = n := by unfold eL eJ; omega
  have M0 := may_F0 (t := t) hm
  have MF := may_F (t := t) (m := m) hm m1 a1 v1
  have hSF := sum_F (t := t) (m := m) hm
  have bd : ∀ {N : Nat} {F G : Nat → Int}, MayHits l v (tmax t a) N F G → (∀ i, i < N → 0 ≤ F i ∧ F i ≤ 1099511627776) ∧ (∀ i, i < N → 0 ≤ G i ∧ G i ≤ 1048576) := fun q => ⟨fun i hi => by have := q.each i hi; omega, fun i hi => by have := q.each i hi; omega⟩
  have WF := wait_spec MF (Int.le_refl 0) v1
  have hNL := MF.len
  have n0 : 0 ≤ sumF (eG l v a t m n f g) (eN l v a t m n f g) := by
    have := sumF_mono (fun i hi => MF.nn i hi) 0 (Nat.zero_le _)
    exact this
  have hc0 := cnt_all M0
  by_cases e : eAl l v a t m n f g = true
  · have hal := al_iff.1 e
    have hrt : eRt l v a t m n f g = 0 := by unfold eRt; rw [if_pos e]
    have hml : m ≤ l := by
      have := sumF_mono (fun i hi => M0.nn i hi) 0 (Nat.zero_le _)
      simp only [sumF] at this
      omega
    have W1 := wait_spec M0 (show 0 ≤ l - m by omega) v1
    have hx : waitE v (eF0 v a t n f) (eG0 v a t n f g) (eL v a t n f) (tmax t a) (l - m) = 0 := W1.2.2.2.2.2.2 (by omega)
    by_cases q : eSame v a t n f = true
    · obtain ⟨q1, q2⟩ := same_iff.1 q
      have eNe : eN l v a t m n f g = eL v a t n f := by unfold eN; rw [if_pos e, if_pos q]
      have eFe : eF l v a t m n f g = eF0 v a t n f := by unfold eF; rw [if_pos e, if_pos q]
      have eGe : eG l v a t m n f g = putF (eG0 v a t n f g) (eL v a t n f - 1) (eG0 v a t n f g (eL v a t n f - 1) + m) := by unfold eG; rw [if_pos e, if_pos q]
      unfold eRm eRs
      rw [eNe, eFe, eGe] at MF WF ⊢
      rw [eNe, eGe] at hSF n0
      rw [eNe] at hNL
      rw [e, hrt]
      refine etold_eq (AskW_al k l v b a t m (tmax t a) sa ha sc n hc _ _ f g _ _ w h a1 a2 hh (by omega) hc1 hc2 hm t1 t2 m1 m2 rfl rfl hL rfl rfl (bd M0).1 (bd M0).2 0 ?_ hml rfl _ _ _ ?_ (by omega) (bd MF).1 (bd MF).2 _ _ rfl n0 MF.all WF.1 WF.2.1 (by have := WF.2.2.1; omega)) rfl rfl rfl rfl rfl rfl rfl
      · exact W1.1.trans (by rw [hx])
      · intro u B vv hB ho
        have q3 := (bd M0).2 (eL v a t n f - 1) (by omega)
        exact added_same B vv _ _ _ _ m u hB ho (by omega) q1 q2 q3.1 q3.2 (by omega) m2
    · have hne : eL v a t n f = 0 ∨ eF0 v a t n f (eL v a t n f - 1) ≠ tmax t a := by
        rcases Nat.eq_zero_or_pos (eL v a t n f) with c | c
        · exact .inl c
        · exact .inr (fun d => q (same_iff.2 ⟨c, d⟩))
      have eNe : eN l v a t m n f g = eL v a t n f + 1 := by unfold eN; rw [if_pos e, if_neg q]
      have eFe : eF l v a t m n f g = putF (eF0 v a t n f) (eL v a t n f) (tmax t a) := by unfold eF; rw [if_pos e, if_neg q]
      have eGe : eG l v a t m n f g = putF (eG0 v a t n f g) (eL v a t n f) m := by unfold eG; rw [if_pos e, if_neg q]
      unfold eRm eRs
      rw [eNe, eFe, eGe] at MF WF ⊢
      rw [eNe, eGe] at hSF n0
      rw [eNe] at hNL
      rw [e, hrt]
      refine etold_eq (AskW_al k l v b a t m (tmax t a) sa ha sc n hc _ _ f g _ _ w h a1 a2 hh (by omega) hc1 hc2 hm t1 t2 m1 m2 rfl rfl hL rfl rfl (bd M0).1 (bd M0).2 0 ?_ hml rfl _ _ _ ?_ (by omega) (bd MF).1 (bd MF).2 _ _ rfl n0 MF.all WF.1 WF.2.1 (by have := WF.2.2.1; omega)) rfl rfl rfl rfl rfl rfl rfl
      · exact W1.1.trans (by rw [hx])
      · intro u B vv hB ho
        exact added_new B vv _ _ _ (tmax t a) m u hB ho (by omega) hne
  · have ef : eAl l v a t m n f g = false := by cases hb : eAl l v a t m n f g with | true => exact absurd hb e | false => rfl
    have hal : ¬ sumF (eG0 v a t n f g) (eL v a t n f) + m ≤ l := fun c => e (al_iff.2 c)
    have eNe : eN l v a t m n f g = eL v a t n f := by unfold eN; rw [if_neg e]
    have eFe : eF l v a t m n f g = eF0 v a t n f := by unfold eF; rw [if_neg e]
    have eGe : eG l v a t m n f g = eG0 v a t n f g := by unfold eG; rw [if_neg e]
    unfold eRm eRs
    rw [eNe, eFe, eGe] at WF ⊢
    rw [eNe, eGe] at n0
    rw [ef]
    by_cases hl : m ≤ l
    · have W1 := wait_spec M0 (show 0 ≤ l - m by omega) v1
      have hrt : eRt l v a t m n f g = waitE v (eF0 v a t n f) (eG0 v a t n f g) (eL v a t n f) (tmax t a) (l - m) := by unfold eRt; rw [if_neg e, if_neg (by omega)]
      have hpos : 0 < waitE v (eF0 v a t n f) (eG0 v a t n f g) (eL v a t n f) (tmax t a) (l - m) := by
        rcases Int.lt_or_eq_of_le W1.2.1 with c | c
        · exact c
        · have := W1.2.2.2.2.2.1 c.symm; omega
      rw [hrt]
      exact etold_eq (AskW_re k l v b a t m (tmax t a) sa ha sc n hc _ _ f g _ _ w h a1 a2 hh (by omega) hc1 hc2 hm t1 t2 m1 m2 rfl rfl hL rfl rfl (bd M0).1 (bd M0).2 _ W1.1 hl hpos (by have := W1.2.2.1; omega) _ _ rfl n0 M0.all WF.1 WF.2.1 (by have := WF.2.2.1; omega)) rfl rfl rfl rfl rfl rfl rfl
    · have hrt : eRt l v a t m n f g = 2199023255552 := by unfold eRt; rw [if_neg e, if_pos (by omega)]
      rw [hrt]
      exact etold_eq (AskW_nv k l v b a t m (tmax t a) sa ha sc n hc _ _ f g _ _ w h a1 a2 hh (by omega) hc1 hc2 hm t1 t2 m1 m2 rfl rfl hL rfl rfl (bd M0).1 (bd M0).2 (by omega) _ _ rfl n0 M0.all WF.1 WF.2.1 (by have := WF.2.2.1; omega)) rfl rfl rfl rfl rfl rfl rfl
theorem Ask_E {k l v b a t m : Int} {sa ha : Option Addr} {sc n hc : Nat} {f g : Nat → Int} (h : EP k l v b) (a1 : 0 ≤ a) (a2 : a ≤ 1099511627776) (hm : MayHits l v a n f g) (w : World) (hh : HitsAt w ha n f g) (hc1 : n ≤ hc) (hc2 : hc ≤ maxLen) (t1 : 0 ≤ t) (t2 : t ≤ 1099511627776) (m1 : 1 ≤ m) (m2 : m ≤ 1048576) (x : Nat → Int) :
    Calls Try.prog 10 #[.agg #[.int .i64 k, .int .i64 l, .int .i64 v, .int .i64 b], .agg #[.int .i64 a, .int .i64 0, .slice sa 0 sc, .slice ha n hc], .int .i64 t, .int .i64 m] w (Tells (tmax t a) 0 0 x (eN l v a t m n f g) (eF l v a t m n f g) (eG l v a t m n f g) (eAl l v a t m n f g) (eRm l v a t m n f g) (eRt l v a t m n f g) (eRs l v a t m n f g) w) := (Ask_E0 h a1 a2 hm w hh hc1 hc2 t1 t2 m1 m2).mono (fun _ _ q => q.tells x)

theorem rAsk_E0 {k l v b a t m : Int} {sa ha : Option Addr} {sc n hc : Nat} {f g : Nat → Int} (h : EP k l v b) (a1 : 0 ≤ a) (a2 : a ≤ 1099511627776) (hm : MayHits l v a n f g) (w : World) (hh : HitsAt w ha n f g) (hc1 : n ≤ hc) (hc2 : hc ≤ maxLen) (t1 : 0 ≤ t) (t2 : t ≤ 1099511627776) (m1 : 1 ≤ m) (m2 : m ≤ 1048576) :
    Calls Try.prog 11 #[.agg #[.int .i64 k, .int .i64 l, .int .i64 v, .int .i64 b], .agg #[.int .i64 a, .int .i64 0, .slice sa 0 sc, .slice ha n hc], .int .i64 t, .int .i64 m] w (ETold (tmax t a) (eN l v a t m n f g) (eF l v a t m n f g) (eG l v a t m n f g) (eAl l v a t m n f g) (eRm l v a t m n f g) (eRt l v a t m n f g) (eRs l v a t m n f g) w) := by
  obtain ⟨l1, l2, v1, v2⟩ := h.bd
  have hn := hm.len
  have hJ := first_le v (tmax t a) f n
  have tb : tmax t a ≤ 1099511627776 := by unfold tmax; split <;> omega
  have hL : eJ v a t n f + eL v a t n f = n := by unfold eL eJ; omega
  have M0 := may_F0 (t := t) hm
  have MF := may_F (t := t) (m := m) hm m1 a1 v1
  have hSF := sum_F (t := t) (m := m) hm
  have bd : ∀ {N : Nat} {F G : Nat → Int}, MayHits l v (tmax t a) N F G → (∀ i, i < N → 0 ≤ F i ∧ F i ≤ 1099511627776) ∧ (∀ i, i < N → 0 ≤ G i ∧ G i ≤ 1048576) := fun q => ⟨fun i hi => by have := q.each i hi; omega, fun i hi => by have := q.each i hi; omega⟩
  have WF := wait_spec MF (Int.le_refl 0) v1
  have hNL := MF.len
  have n0 : 0 ≤ sumF (eG l v a t m n f g) (eN l v a t m n f g) := by
    have := sumF_mono (fun i hi => MF.nn i hi) 0 (Nat.zero_le _)
    exact this
  have hc0 := cnt_all M0
  by_cases e : eAl l v a t m n f g = true
  · have hal := al_iff.1 e
    have hrt : eRt l v a t m n f g = 0 := by unfold eRt; rw [if_pos e]
    have hml : m ≤ l := by
      have := sumF_mono (fun i hi => M0.nn i hi) 0 (Nat.zero_le _)
      simp only [sumF] at this
      omega
    have W1 := wait_spec M0 (show 0 ≤ l - m by omega) v1
    have hx : waitE v (eF0 v a t n f) (eG0 v a t n f g) (eL v a t n f) (tmax t a) (l - m) = 0 := W1.2.2.2.2.2.2 (by omega)
    by_cases q : eSame v a t n f = true
    · obtain ⟨q1, q2⟩ := same_iff.1 q
      have eNe : eN l v a t m n f g = eL v a t n f := by unfold eN; rw [if_pos e, if_pos q]
      have eFe : eF l v a t m n f g = eF0 v a t n f := by unfold eF; rw [if_pos e, if_pos q]
      have eGe : eG l v a t m n f g = putF (eG0 v a t n f g) (eL v a t n f - 1) (eG0 v a t n f g (eL v a t n f - 1) + m) := by unfold eG; rw [if_pos e, if_pos q]
      unfold eRm eRs
      rw [eNe, eFe, eGe] at MF WF ⊢
      rw [eNe, eGe] at hSF n0
      rw [eNe] at hNL
      rw [e, hrt]
      refine etold_eq (rAskW_sm k l v b a t m (tmax t a) sa ha sc n hc _ _ f g _ _ w h a1 a2 hh (by omega) hm t1 t2 m1 m2 rfl (fun i hi => first_iff hm i hi) hL rfl rfl (bd M0).1 (bd M0).2 _ hc0 (Int.le_trans (Int.le_refl _) (sumF_mono (fun i hi => M0.nn i hi) 0 (Nat.zero_le _))) M0.all hml hal q1 q2 (bd MF).1 (bd MF).2 _ rfl) rfl rfl rfl rfl ?_ rfl rfl
      rw [if_pos e] at hSF
      rw [hSF]
    · have hne : eL v a t n f = 0 ∨ eF0 v a t n f (eL v a t n f - 1) ≠ tmax t a := by
        rcases Nat.eq_zero_or_pos (eL v a t n f) with c | c
        · exact .inl c
        · exact .inr (fun d => q (same_iff.2 ⟨c, d⟩))
      have eNe : eN l v a t m n f g = eL v a t n f + 1 := by unfold eN; rw [if_pos e, if_neg q]
      have eFe : eF l v a t m n f g = putF (eF0 v a t n f) (eL v a t n f) (tmax t a) := by unfold eF; rw [if_pos e, if_neg q]
      have eGe : eG l v a t m n f g = putF (eG0 v a t n f g) (eL v a t n f) m := by unfold eG; rw [if_pos e, if_neg q]
      unfold eRm eRs
      rw [eNe, eFe, eGe] at MF WF ⊢
      rw [eNe, eGe] at hSF n0
      rw [eNe] at hNL
      rw [e, hrt]
      refine etold_eq (rAskW_nw k l v b a t m (tmax t a) sa ha sc n hc _ _ f g _ _ w h a1 a2 hh (by omega) hm t1 t2 m1 m2 rfl (fun i hi => first_iff hm i hi) hL rfl rfl (bd M0).1 (bd M0).2 _ hc0 (Int.le_trans (Int.le_refl _) (sumF_mono (fun i hi => M0.nn i hi) 0 (Nat.zero_le _))) M0.all hml hal hne (bd MF).1 (bd MF).2 _ rfl) rfl rfl rfl rfl ?_ rfl rfl
      rw [if_pos e] at hSF
      rw [hSF]
  · have ef : eAl l v a t m n f g = false := by cases hb : eAl l v a t m n f g with | true => exact absurd hb e | false => rfl
    have hal : ¬ sumF (eG0 v a t n f g) (eL v a t n f) + m ≤ l := fun c => e (al_iff.2 c)
    have eNe : eN l v a t m n f g = eL v a t n f := by unfold eN; rw [if_neg e]
    have eFe : eF l v a t m n f g = eF0 v a t n f := by unfold eF; rw [if_neg e]
    have eGe : eG l v a t m n f g = eG0 v a t n f g := by unfold eG; rw [if_neg e]
    unfold eRm eRs
    rw [eNe, eFe, eGe] at WF ⊢
    rw [eNe, eGe] at n0
    rw [ef]
    by_cases hl : m ≤ l
    · have W1 := wait_spec M0 (show 0 ≤ l - m by omega) v1
      have hrt : eRt l v a t m n f g = waitE v (eF0 v a t n f) (eG0 v a t n f g) (eL v a t n f) (tmax t a) (l - m) := by unfold eRt; rw [if_neg e, if_neg (by omega)]
      have hpos : 0 < waitE v (eF0 v a t n f) (eG0 v a t n f g) (eL v a t n f) (tmax t a) (l - m) := by
        rcases Int.lt_or_eq_of_le W1.2.1 with c | c
        · exact c
        · have := W1.2.2.2.2.2.1 c.symm; omega
      rw [hrt]
      exact etold_eq (rAskW_re k l v b a t m (tmax t a) sa ha sc n hc _ _ f g _ _ w h a1 a2 hh (by omega) hm t1 t2 m1 m2 rfl (fun i hi => first_iff hm i hi) hL rfl rfl (bd M0).1 (bd M0).2 _ hc0 n0 M0.all _ rfl hl (by omega) _ rfl) rfl rfl rfl rfl rfl rfl rfl
    · have hrt : eRt l v a t m n f g = 2199023255552 := by unfold eRt; rw [if_neg e, if_pos (by omega)]
      rw [hrt]
      exact etold_eq (rAskW_nv k l v b a t m (tmax t a) sa ha sc n hc _ _ f g _ _ w h a1 a2 hh (by omega) hm t1 t2 m1 m2 rfl (fun i hi => first_iff hm i hi) hL rfl rfl (bd M0).1 (bd M0).2 _ hc0 n0 M0.all (by omega) (by omega) _ rfl) rfl rfl rfl rfl rfl rfl rfl
theorem rAsk_E {k l v b a t m : Int} {sa ha : Option Addr} {sc n hc : Nat} {f g : Nat → Int} (h : EP k l v b) (a1 : 0 ≤ a) (a2 : a ≤ 1099511627776) (hm : MayHits l v a n f g) (w : World) (hh : HitsAt w ha n f g) (hc1 : n ≤ hc) (hc2 : hc ≤ maxLen) (t1 : 0 ≤ t) (t2 : t ≤ 1099511627776) (m1 : 1 ≤ m) (m2 : m ≤ 1048576) (x : Nat → Int) :
    Calls Try.prog 11 #[.agg #[.int .i64 k, .int .i64 l, .int .i64 v, .int .i64 b], .agg #[.int .i64 a, .int .i64 0, .slice sa 0 sc, .slice ha n hc], .int .i64 t, .int .i64 m] w (Tells (tmax t a) 0 0 x (eN l v a t m n f g) (eF l v a t m n f g) (eG l v a t m n f g) (eAl l v a t m n f g) (eRm l v a t m n f g) (eRt l v a t m n f g) (eRs l v a t m n f g) w) := (rAsk_E0 h a1 a2 hm w hh hc1 hc2 t1 t2 m1 m2).mono (fun _ _ q => q.tells x)
end Go.Proofs.Ytgdcgilhaedbmaa
