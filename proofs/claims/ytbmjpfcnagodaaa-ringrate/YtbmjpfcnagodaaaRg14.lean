/- Ring's asks that are refused, totals and ends; all contracts of ring in one form. WRITTEN BY gen_rg14.py. -/
import Derived.Test.YtbmjpfcnagodaaaRg12
-- prune
namespace Go.Proofs.Ytbmjpfcnagodaaa
open Go.ChangeShapes Go.WideShapes Go.ChangeAt Go.RowKit
set_option linter.unusedVariables false

theorem MayR.yes {k l v b a n : Int} {sa ha : Option Addr} {sn sc hn hc : Nat} {f : Nat → Int} (h : MayR k l v b a n sn hn f) (w : World) (hf : SumsAt w sa sn f) : Calls Try.prog 13 #[.agg #[.int .i64 k, .int .i64 l, .int .i64 v, .int .i64 b], .agg #[.int .i64 a, .int .i64 n, .slice sa sn sc, .slice ha hn hc]] w fun e w' => e = .returned (.bool true) ∧ Below w.heap.size w w' := by
  obtain ⟨h1, h2, h3, h4, rfl, rfl, h7⟩ := h
  exact May_yes k l v b _ a sa ha sn sc hc f w ⟨h1, h2, rfl⟩ h3 h4 h7 hf
theorem MayR.ryes {k l v b a n : Int} {sa ha : Option Addr} {sn sc hn hc : Nat} {f : Nat → Int} (h : MayR k l v b a n sn hn f) (w : World) (hf : SumsAt w sa sn f) : Calls Try.prog 14 #[.agg #[.int .i64 k, .int .i64 l, .int .i64 v, .int .i64 b], .agg #[.int .i64 a, .int .i64 n, .slice sa sn sc, .slice ha hn hc]] w fun e w' => e = .returned (.bool true) ∧ Below w.heap.size w w' := by
  obtain ⟨h1, h2, h3, h4, rfl, rfl, h7⟩ := h
  exact rMay_yes k l v b _ a sa ha sn sc hc f w ⟨h1, h2, rfl⟩ h3 h4 h7 hf
theorem AskAt.put {w0 w : World} {k l v b a n : Int} {x y : Value} (h : AskAt w0 k l v b a n x y w) (c0 c1 c2 c3 v0 v1 v2 v3 : Value) :
    Below w0.heap.size w0 ((((((((w.setCell ⟨w0.heap.size + 1 + 1, 0, none⟩ c0).setCell ⟨w0.heap.size + 1 + 1, 1, none⟩ c1).setCell ⟨w0.heap.size + 1 + 1, 2, none⟩ c2).setCell ⟨w0.heap.size + 1 + 1, 3, none⟩ c3).setCell ⟨w0.heap.size + 1 + 1 + 1, 0, none⟩ v0).setCell ⟨w0.heap.size + 1 + 1 + 1, 1, none⟩ v1).setCell ⟨w0.heap.size + 1 + 1 + 1, 2, none⟩ v2).setCell ⟨w0.heap.size + 1 + 1 + 1, 3, none⟩ v3) :=
  (((((((h.pc.be.setCell (p := ⟨_, 0, none⟩) (le2 _) _).setCell (p := ⟨_, 1, none⟩) (le2 _) _).setCell (p := ⟨_, 2, none⟩) (le2 _) _).setCell (p := ⟨_, 3, none⟩) (le2 _) _).setCell (p := ⟨_, 0, none⟩) (le3 _) _).setCell (p := ⟨_, 1, none⟩) (le3 _) _).setCell (p := ⟨_, 2, none⟩) (le3 _) _).setCell (p := ⟨_, 3, none⟩) (le3 _) _

set_option maxRecDepth 100000 in
set_option maxHeartbeats 4000000 in
theorem Ask_n0 (k l v b a n : Int) (sa ha : Option Addr) (sn sc hn hc : Nat) (f : Nat → Int) (t m : Int) (w : World) (h : ¬ MayR k l v b a n sn hn f) (hx : sn ≤ maxLen) (hx2 : hn ≤ maxLen) (hf : SumsAt w sa sn f) :
    Calls Try.prog 10 #[.agg #[.int .i64 k, .int .i64 l, .int .i64 v, .int .i64 b], .agg #[.int .i64 a, .int .i64 n, .slice sa sn sc, .slice ha hn hc], .int .i64 t, .int .i64 m] w fun e w' => e = .returned (.tuple #[.agg #[.int .i64 a, .int .i64 n, .slice sa sn sc, .slice ha hn hc], .agg #[.bool false, .int .i64 0, .int .i64 0, .int .i64 0]]) ∧ Below w.heap.size w w' := by
  have MK := Lib.hid (fun u (hu : Below w.heap.size w u) => May_no k l v b a n sa ha sn sc hn hc u f h hx hx2 (hf.below hu))
  have HP := Lib.hid (AskAt.made w k l v b a n (.slice sa sn sc) (.slice ha hn hc))
  clear h hf
  go_enter Try.func10, Try.ntmps10
  go_wp2_with fail
  refine (MK.out _ HP.out.pc.be).mono ?_; rintro e w1 ⟨rfl, hb⟩
  have HQ := Lib.hid (HP.out.step hb)
  obtain ⟨z0, z1, z2, z3, z4, z5, z6, z7⟩ := HQ.out.pc.eight
  obtain ⟨r0, r1, r2, r3, r4, r5, r6, r7, r8, r9⟩ := HQ.out.res
  clear hb HP MK
  go_wp2_with fail
  exact bodyPost_ret (v := .tuple #[.agg #[.int .i64 a, .int .i64 n, .slice sa sn sc, .slice ha hn hc], .agg #[.bool false, .int .i64 0, .int .i64 0, .int .i64 0]]) (by simp [results, Try.results10, go_sem, r0, r1, r2, r3, r4, r5, r6, r7]) rfl ⟨rfl, HQ.out.put _ _ _ _ _ _ _ _⟩

set_option maxRecDepth 100000 in
set_option maxHeartbeats 4000000 in
theorem Ask_n1 (k l v b a n : Int) (sa ha : Option Addr) (sn sc hn hc : Nat) (f : Nat → Int) (t m : Int) (w : World) (h : MayR k l v b a n sn hn f) (ht : ¬ (0 ≤ t ∧ t ≤ 1099511627776)) (hx : sn ≤ maxLen) (hx2 : hn ≤ maxLen) (hf : SumsAt w sa sn f) :
    Calls Try.prog 10 #[.agg #[.int .i64 k, .int .i64 l, .int .i64 v, .int .i64 b], .agg #[.int .i64 a, .int .i64 n, .slice sa sn sc, .slice ha hn hc], .int .i64 t, .int .i64 m] w fun e w' => e = .returned (.tuple #[.agg #[.int .i64 a, .int .i64 n, .slice sa sn sc, .slice ha hn hc], .agg #[.bool false, .int .i64 0, .int .i64 0, .int .i64 0]]) ∧ Below w.heap.size w w' := by
  have MK := Lib.hid (fun u (hu : Below w.heap.size w u) => h.yes (sc := sc) (hc := hc) (ha := ha) u (hf.below hu))
  have TK := Lib.hid (fun u => isTick_no t u ht)
  clear ht
  have HP := Lib.hid (AskAt.made w k l v b a n (.slice sa sn sc) (.slice ha hn hc))
  clear h hf
  go_enter Try.func10, Try.ntmps10
  go_wp2_with fail
  refine (MK.out _ HP.out.pc.be).mono ?_; rintro e w1 ⟨rfl, hb⟩
  have HQ := Lib.hid (HP.out.step hb)
  obtain ⟨z0, z1, z2, z3, z4, z5, z6, z7⟩ := HQ.out.pc.eight
  obtain ⟨r0, r1, r2, r3, r4, r5, r6, r7, r8, r9⟩ := HQ.out.res
  clear hb HP MK
  go_wp2_with fail
  refine (TK.out _).mono ?_; rintro e w' ⟨rfl, rfl⟩
  go_wp2_with fail
  exact bodyPost_ret (v := .tuple #[.agg #[.int .i64 a, .int .i64 n, .slice sa sn sc, .slice ha hn hc], .agg #[.bool false, .int .i64 0, .int .i64 0, .int .i64 0]]) (by simp [results, Try.results10, go_sem, r0, r1, r2, r3, r4, r5, r6, r7]) rfl ⟨rfl, HQ.out.put _ _ _ _ _ _ _ _⟩

set_option maxRecDepth 100000 in
set_option maxHeartbeats 4000000 in
theorem Ask_n2 (k l v b a n : Int) (sa ha : Option Addr) (sn sc hn hc : Nat) (f : Nat → Int) (t m : Int) (w : World) (h : MayR k l v b a n sn hn f) (t1 : 0 ≤ t) (t2 : t ≤ 1099511627776) (hw : ¬ (1 ≤ m ∧ m ≤ 1048576)) (hx : sn ≤ maxLen) (hx2 : hn ≤ maxLen) (hf : SumsAt w sa sn f) :
    Calls Try.prog 10 #[.agg #[.int .i64 k, .int .i64 l, .int .i64 v, .int .i64 b], .agg #[.int .i64 a, .int .i64 n, .slice sa sn sc, .slice ha hn hc], .int .i64 t, .int .i64 m] w fun e w' => e = .returned (.tuple #[.agg #[.int .i64 a, .int .i64 n, .slice sa sn sc, .slice ha hn hc], .agg #[.bool false, .int .i64 0, .int .i64 0, .int .i64 0]]) ∧ Below w.heap.size w w' := by
  have MK := Lib.hid (fun u (hu : Below w.heap.size w u) => h.yes (sc := sc) (hc := hc) (ha := ha) u (hf.below hu))
  have TK := Lib.hid (fun u => isTick_yes t u t1 t2)
  have WK := Lib.hid (fun u => Weighs_no m u hw)
  clear hw
  have HP := Lib.hid (AskAt.made w k l v b a n (.slice sa sn sc) (.slice ha hn hc))
  clear h hf
  go_enter Try.func10, Try.ntmps10
  go_wp2_with fail
  refine (MK.out _ HP.out.pc.be).mono ?_; rintro e w1 ⟨rfl, hb⟩
  have HQ := Lib.hid (HP.out.step hb)
  obtain ⟨z0, z1, z2, z3, z4, z5, z6, z7⟩ := HQ.out.pc.eight
  obtain ⟨r0, r1, r2, r3, r4, r5, r6, r7, r8, r9⟩ := HQ.out.res
  clear hb HP MK
  go_wp2_with fail
  refine (TK.out _).mono ?_; rintro e w' ⟨rfl, rfl⟩
  go_wp2_with fail
  refine (WK.out _).mono ?_; rintro e w' ⟨rfl, rfl⟩
  go_wp2_with fail
  exact bodyPost_ret (v := .tuple #[.agg #[.int .i64 a, .int .i64 n, .slice sa sn sc, .slice ha hn hc], .agg #[.bool false, .int .i64 0, .int .i64 0, .int .i64 0]]) (by simp [results, Try.results10, go_sem, r0, r1, r2, r3, r4, r5, r6, r7]) rfl ⟨rfl, HQ.out.put _ _ _ _ _ _ _ _⟩

set_option maxRecDepth 100000 in
set_option maxHeartbeats 4000000 in
theorem Total_no (k l v b a n : Int) (sa ha : Option Addr) (sn sc hn hc : Nat) (f : Nat → Int) (t : Int) (w : World) (h : ¬ MayR k l v b a n sn hn f) (hx : sn ≤ maxLen) (hx2 : hn ≤ maxLen) (hf : SumsAt w sa sn f) :
    Calls Try.prog 15 #[.agg #[.int .i64 k, .int .i64 l, .int .i64 v, .int .i64 b], .agg #[.int .i64 a, .int .i64 n, .slice sa sn sc, .slice ha hn hc], .int .i64 t] w fun e w' => e = .returned (.int .i64 0) ∧ Below w.heap.size w w' := by
  have MK := Lib.hid (fun u (hu : Below w.heap.size w u) => May_no k l v b a n sa ha sn sc hn hc u f h hx hx2 (hf.below hu))
  have HP := Lib.hid (PC.made w k l v b a n (.slice sa sn sc) (.slice ha hn hc) 23 27)
  clear h hf
  go_enter Try.func15, Try.ntmps15
  go_wp2_with fail
  refine (MK.out _ HP.out.be).mono ?_; rintro e w1 ⟨rfl, hb⟩
  have H1 := Lib.hid (HP.out.step hb)
  clear hb HP MK
  obtain ⟨z0, z1, z2, z3, z4, z5, z6, z7⟩ := H1.out.eight
  go_wp2_with fail
  go_ret
  exact ⟨rfl, H1.out.be⟩

set_option maxRecDepth 100000 in
set_option maxHeartbeats 4000000 in
theorem Total_t (k l v b a n : Int) (sa ha : Option Addr) (sn sc hn hc : Nat) (f : Nat → Int) (t : Int) (w : World) (h : MayR k l v b a n sn hn f) (ht : ¬ (0 ≤ t ∧ t ≤ 1099511627776)) (hx : sn ≤ maxLen) (hx2 : hn ≤ maxLen) (hf : SumsAt w sa sn f) :
    Calls Try.prog 15 #[.agg #[.int .i64 k, .int .i64 l, .int .i64 v, .int .i64 b], .agg #[.int .i64 a, .int .i64 n, .slice sa sn sc, .slice ha hn hc], .int .i64 t] w fun e w' => e = .returned (.int .i64 0) ∧ Below w.heap.size w w' := by
  have MK := Lib.hid (fun u (hu : Below w.heap.size w u) => h.yes (sc := sc) (hc := hc) (ha := ha) u (hf.below hu))
  have TK := Lib.hid (fun u => isTick_no t u ht)
  clear ht
  have HP := Lib.hid (PC.made w k l v b a n (.slice sa sn sc) (.slice ha hn hc) 23 27)
  clear h hf
  go_enter Try.func15, Try.ntmps15
  go_wp2_with fail
  refine (MK.out _ HP.out.be).mono ?_; rintro e w1 ⟨rfl, hb⟩
  have H1 := Lib.hid (HP.out.step hb)
  clear hb HP MK
  obtain ⟨z0, z1, z2, z3, z4, z5, z6, z7⟩ := H1.out.eight
  go_wp2_with fail
  refine (TK.out _).mono ?_; rintro e w' ⟨rfl, rfl⟩
  go_wp2_with fail
  go_ret
  exact ⟨rfl, H1.out.be⟩

set_option maxRecDepth 100000 in
set_option maxHeartbeats 4000000 in
theorem Ends_no (k l v b a n : Int) (sa ha : Option Addr) (sn sc hn hc : Nat) (f : Nat → Int) (w : World) (h : ¬ MayR k l v b a n sn hn f) (hx : sn ≤ maxLen) (hx2 : hn ≤ maxLen) (hf : SumsAt w sa sn f) :
    Calls Try.prog 17 #[.agg #[.int .i64 k, .int .i64 l, .int .i64 v, .int .i64 b], .agg #[.int .i64 a, .int .i64 n, .slice sa sn sc, .slice ha hn hc]] w fun e w' => e = .returned (.int .i64 0) ∧ Below w.heap.size w w' := by
  have MK := Lib.hid (fun u (hu : Below w.heap.size w u) => May_no k l v b a n sa ha sn sc hn hc u f h hx hx2 (hf.below hu))
  have HP := Lib.hid (PC.made w k l v b a n (.slice sa sn sc) (.slice ha hn hc) 23 27)
  clear h hf
  go_enter Try.func17, Try.ntmps17
  go_wp2_with fail
  refine (MK.out _ HP.out.be).mono ?_; rintro e w1 ⟨rfl, hb⟩
  have H1 := Lib.hid (HP.out.step hb)
  clear hb HP MK
  obtain ⟨z0, z1, z2, z3, z4, z5, z6, z7⟩ := H1.out.eight
  go_wp2_with fail
  go_ret
  exact ⟨rfl, H1.out.be⟩

set_option maxRecDepth 100000 in
set_option maxHeartbeats 4000000 in
theorem Ends_yes (k l v b a : Int) (sa ha : Option Addr) (sn sc hc : Nat) (f : Nat → Int) (w : World) (rp : RP k l v b (v / b)) (a1 : 0 ≤ a) (a2 : a ≤ 1099511627776) (hm : MaySums l b (a / (v / b)) sn f) (hf : SumsAt w sa sn f) :
    Calls Try.prog 17 #[.agg #[.int .i64 k, .int .i64 l, .int .i64 v, .int .i64 b], .agg #[.int .i64 a, .int .i64 0, .slice sa sn sc, .slice ha 0 hc]] w fun e w' => e = .returned (.int .i64 (a + waitV (fun m => cntV b (a / (v / b)) m sn f) (v / b) (a / (v / b)) b a 0)) ∧ Below w.heap.size w w' := by
  have MK := Lib.hid (fun u (hu : Below w.heap.size w u) => May_yes k l v b (v / b) a sa ha sn sc hc f u rp a1 a2 hm (hf.below hu))
  have LV := Lib.hid (fun u (hu : Below w.heap.size w u) => fits_any k l v b (v / b) a 0 sa ha sn sc hc f u rp a1 a2 hm (hf.below hu) (by omega) (by omega))
  have HP := Lib.hid (PC.made w k l v b a 0 (.slice sa sn sc) (.slice ha 0 hc) 23 27)
  clear hm hf rp
  generalize waitV (fun m => cntV b (a / (v / b)) m sn f) (v / b) (a / (v / b)) b a 0 = WV at *
  go_enter Try.func17, Try.ntmps17
  go_wp2_with fail
  refine (MK.out _ HP.out.be).mono ?_; rintro e w1 ⟨rfl, hb⟩
  have H1 := Lib.hid (HP.out.step hb)
  clear hb HP MK
  obtain ⟨z0, z1, z2, z3, z4, z5, z6, z7⟩ := H1.out.eight
  go_wp2_with fail
  refine (LV.out _ H1.out.be).mono ?_; rintro e w2 ⟨rfl, hb⟩
  have H2 := Lib.hid (H1.out.step hb)
  clear hb
  go_wp2_with fail
  go_ret
  exact ⟨rfl, H2.out.be⟩

set_option maxRecDepth 100000 in
set_option maxHeartbeats 4000000 in
theorem rAsk_n0 (k l v b a n : Int) (sa ha : Option Addr) (sn sc hn hc : Nat) (f : Nat → Int) (t m : Int) (w : World) (h : ¬ MayR k l v b a n sn hn f) (hx : sn ≤ maxLen) (hx2 : hn ≤ maxLen) (hf : SumsAt w sa sn f) :
    Calls Try.prog 11 #[.agg #[.int .i64 k, .int .i64 l, .int .i64 v, .int .i64 b], .agg #[.int .i64 a, .int .i64 n, .slice sa sn sc, .slice ha hn hc], .int .i64 t, .int .i64 m] w fun e w' => e = .returned (.tuple #[.agg #[.int .i64 a, .int .i64 n, .slice sa sn sc, .slice ha hn hc], .agg #[.bool false, .int .i64 0, .int .i64 0, .int .i64 0]]) ∧ Below w.heap.size w w' := by
  have MK := Lib.hid (fun u (hu : Below w.heap.size w u) => rMay_no k l v b a n sa ha sn sc hn hc u f h hx hx2 (hf.below hu))
  have HP := Lib.hid (AskAt.made w k l v b a n (.slice sa sn sc) (.slice ha hn hc))
  clear h hf
  go_enter Try.func11, Try.ntmps11
  go_wp2_with fail
  refine (MK.out _ HP.out.pc.be).mono ?_; rintro e w1 ⟨rfl, hb⟩
  have HQ := Lib.hid (HP.out.step hb)
  obtain ⟨z0, z1, z2, z3, z4, z5, z6, z7⟩ := HQ.out.pc.eight
  obtain ⟨r0, r1, r2, r3, r4, r5, r6, r7, r8, r9⟩ := HQ.out.res
  clear hb HP MK
  go_wp2_with fail
  exact bodyPost_ret (v := .tuple #[.agg #[.int .i64 a, .int .i64 n, .slice sa sn sc, .slice ha hn hc], .agg #[.bool false, .int .i64 0, .int .i64 0, .int .i64 0]]) (by simp [results, Try.results11, go_sem, r0, r1, r2, r3, r4, r5, r6, r7]) rfl ⟨rfl, HQ.out.put _ _ _ _ _ _ _ _⟩

set_option maxRecDepth 100000 in
set_option maxHeartbeats 4000000 in
theorem rAsk_n1 (k l v b a n : Int) (sa ha : Option Addr) (sn sc hn hc : Nat) (f : Nat → Int) (t m : Int) (w : World) (h : MayR k l v b a n sn hn f) (ht : ¬ (0 ≤ t ∧ t ≤ 1099511627776)) (hx : sn ≤ maxLen) (hx2 : hn ≤ maxLen) (hf : SumsAt w sa sn f) :
    Calls Try.prog 11 #[.agg #[.int .i64 k, .int .i64 l, .int .i64 v, .int .i64 b], .agg #[.int .i64 a, .int .i64 n, .slice sa sn sc, .slice ha hn hc], .int .i64 t, .int .i64 m] w fun e w' => e = .returned (.tuple #[.agg #[.int .i64 a, .int .i64 n, .slice sa sn sc, .slice ha hn hc], .agg #[.bool false, .int .i64 0, .int .i64 0, .int .i64 0]]) ∧ Below w.heap.size w w' := by
  have MK := Lib.hid (fun u (hu : Below w.heap.size w u) => h.ryes (sc := sc) (hc := hc) (ha := ha) u (hf.below hu))
  have TK := Lib.hid (fun u => rTime_no t u ht)
  clear ht
  have HP := Lib.hid (AskAt.made w k l v b a n (.slice sa sn sc) (.slice ha hn hc))
  clear h hf
  go_enter Try.func11, Try.ntmps11
  go_wp2_with fail
  refine (MK.out _ HP.out.pc.be).mono ?_; rintro e w1 ⟨rfl, hb⟩
  have HQ := Lib.hid (HP.out.step hb)
  obtain ⟨z0, z1, z2, z3, z4, z5, z6, z7⟩ := HQ.out.pc.eight
  obtain ⟨r0, r1, r2, r3, r4, r5, r6, r7, r8, r9⟩ := HQ.out.res
  clear hb HP MK
  go_wp2_with fail
  refine (TK.out _).mono ?_; rintro e w' ⟨rfl, rfl⟩
  go_wp2_with fail
  exact bodyPost_ret (v := .tuple #[.agg #[.int .i64 a, .int .i64 n, .slice sa sn sc, .slice ha hn hc], .agg #[.bool false, .int .i64 0, .int .i64 0, .int .i64 0]]) (by simp [results, Try.results11, go_sem, r0, r1, r2, r3, r4, r5, r6, r7]) rfl ⟨rfl, HQ.out.put _ _ _ _ _ _ _ _⟩

set_option maxRecDepth 100000 in
set_option maxHeartbeats 4000000 in
theorem rAsk_n2 (k l v b a n : Int) (sa ha : Option Addr) (sn sc hn hc : Nat) (f : Nat → Int) (t m : Int) (w : World) (h : MayR k l v b a n sn hn f) (t1 : 0 ≤ t) (t2 : t ≤ 1099511627776) (hw : ¬ (1 ≤ m ∧ m ≤ 1048576)) (hx : sn ≤ maxLen) (hx2 : hn ≤ maxLen) (hf : SumsAt w sa sn f) :
    Calls Try.prog 11 #[.agg #[.int .i64 k, .int .i64 l, .int .i64 v, .int .i64 b], .agg #[.int .i64 a, .int .i64 n, .slice sa sn sc, .slice ha hn hc], .int .i64 t, .int .i64 m] w fun e w' => e = .returned (.tuple #[.agg #[.int .i64 a, .int .i64 n, .slice sa sn sc, .slice ha hn hc], .agg #[.bool false, .int .i64 0, .int .i64 0, .int .i64 0]]) ∧ Below w.heap.size w w' := by
  have MK := Lib.hid (fun u (hu : Below w.heap.size w u) => h.ryes (sc := sc) (hc := hc) (ha := ha) u (hf.below hu))
  have TK := Lib.hid (fun u => rTime_yes t u t1 t2)
  have WK := Lib.hid (fun u => rWeighs_no m u hw)
  clear hw
  have HP := Lib.hid (AskAt.made w k l v b a n (.slice sa sn sc) (.slice ha hn hc))
  clear h hf
  go_enter Try.func11, Try.ntmps11
  go_wp2_with fail
  refine (MK.out _ HP.out.pc.be).mono ?_; rintro e w1 ⟨rfl, hb⟩
  have HQ := Lib.hid (HP.out.step hb)
  obtain ⟨z0, z1, z2, z3, z4, z5, z6, z7⟩ := HQ.out.pc.eight
  obtain ⟨r0, r1, r2, r3, r4, r5, r6, r7, r8, r9⟩ := HQ.out.res
  clear hb HP MK
  go_wp2_with fail
  refine (TK.out _).mono ?_; rintro e w' ⟨rfl, rfl⟩
  go_wp2_with fail
  refine (WK.out _).mono ?_; rintro e w' ⟨rfl, rfl⟩
  go_wp2_with fail
  exact bodyPost_ret (v := .tuple #[.agg #[.int .i64 a, .int .i64 n, .slice sa sn sc, .slice ha hn hc], .agg #[.bool false, .int .i64 0, .int .i64 0, .int .i64 0]]) (by simp [results, Try.results11, go_sem, r0, r1, r2, r3, r4, r5, r6, r7]) rfl ⟨rfl, HQ.out.put _ _ _ _ _ _ _ _⟩

set_option maxRecDepth 100000 in
set_option maxHeartbeats 4000000 in
theorem rTotal_no (k l v b a n : Int) (sa ha : Option Addr) (sn sc hn hc : Nat) (f : Nat → Int) (t : Int) (w : World) (h : ¬ MayR k l v b a n sn hn f) (hx : sn ≤ maxLen) (hx2 : hn ≤ maxLen) (hf : SumsAt w sa sn f) :
    Calls Try.prog 16 #[.agg #[.int .i64 k, .int .i64 l, .int .i64 v, .int .i64 b], .agg #[.int .i64 a, .int .i64 n, .slice sa sn sc, .slice ha hn hc], .int .i64 t] w fun e w' => e = .returned (.int .i64 0) ∧ Below w.heap.size w w' := by
  have MK := Lib.hid (fun u (hu : Below w.heap.size w u) => rMay_no k l v b a n sa ha sn sc hn hc u f h hx hx2 (hf.below hu))
  have HP := Lib.hid (PC.made w k l v b a n (.slice sa sn sc) (.slice ha hn hc) 23 27)
  clear h hf
  go_enter Try.func16, Try.ntmps16
  go_wp2_with fail
  refine (MK.out _ HP.out.be).mono ?_; rintro e w1 ⟨rfl, hb⟩
  have H1 := Lib.hid (HP.out.step hb)
  clear hb HP MK
  obtain ⟨z0, z1, z2, z3, z4, z5, z6, z7⟩ := H1.out.eight
  go_wp2_with fail
  go_ret
  exact ⟨rfl, H1.out.be⟩

set_option maxRecDepth 100000 in
set_option maxHeartbeats 4000000 in
theorem rTotal_t (k l v b a n : Int) (sa ha : Option Addr) (sn sc hn hc : Nat) (f : Nat → Int) (t : Int) (w : World) (h : MayR k l v b a n sn hn f) (ht : ¬ (0 ≤ t ∧ t ≤ 1099511627776)) (hx : sn ≤ maxLen) (hx2 : hn ≤ maxLen) (hf : SumsAt w sa sn f) :
    Calls Try.prog 16 #[.agg #[.int .i64 k, .int .i64 l, .int .i64 v, .int .i64 b], .agg #[.int .i64 a, .int .i64 n, .slice sa sn sc, .slice ha hn hc], .int .i64 t] w fun e w' => e = .returned (.int .i64 0) ∧ Below w.heap.size w w' := by
  have MK := Lib.hid (fun u (hu : Below w.heap.size w u) => h.ryes (sc := sc) (hc := hc) (ha := ha) u (hf.below hu))
  have TK := Lib.hid (fun u => rTime_no t u ht)
  clear ht
  have HP := Lib.hid (PC.made w k l v b a n (.slice sa sn sc) (.slice ha hn hc) 23 27)
  clear h hf
  go_enter Try.func16, Try.ntmps16
  go_wp2_with fail
  refine (MK.out _ HP.out.be).mono ?_; rintro e w1 ⟨rfl, hb⟩
  have H1 := Lib.hid (HP.out.step hb)
  clear hb HP MK
  obtain ⟨z0, z1, z2, z3, z4, z5, z6, z7⟩ := H1.out.eight
  go_wp2_with fail
  refine (TK.out _).mono ?_; rintro e w' ⟨rfl, rfl⟩
  go_wp2_with fail
  go_ret
  exact ⟨rfl, H1.out.be⟩

set_option maxRecDepth 100000 in
set_option maxHeartbeats 4000000 in
theorem rEnds_no (k l v b a n : Int) (sa ha : Option Addr) (sn sc hn hc : Nat) (f : Nat → Int) (w : World) (h : ¬ MayR k l v b a n sn hn f) (hx : sn ≤ maxLen) (hx2 : hn ≤ maxLen) (hf : SumsAt w sa sn f) :
    Calls Try.prog 18 #[.agg #[.int .i64 k, .int .i64 l, .int .i64 v, .int .i64 b], .agg #[.int .i64 a, .int .i64 n, .slice sa sn sc, .slice ha hn hc]] w fun e w' => e = .returned (.int .i64 0) ∧ Below w.heap.size w w' := by
  have MK := Lib.hid (fun u (hu : Below w.heap.size w u) => rMay_no k l v b a n sa ha sn sc hn hc u f h hx hx2 (hf.below hu))
  have HP := Lib.hid (PC.made w k l v b a n (.slice sa sn sc) (.slice ha hn hc) 23 27)
  clear h hf
  go_enter Try.func18, Try.ntmps18
  go_wp2_with fail
  refine (MK.out _ HP.out.be).mono ?_; rintro e w1 ⟨rfl, hb⟩
  have H1 := Lib.hid (HP.out.step hb)
  clear hb HP MK
  obtain ⟨z0, z1, z2, z3, z4, z5, z6, z7⟩ := H1.out.eight
  go_wp2_with fail
  go_ret
  exact ⟨rfl, H1.out.be⟩

set_option maxRecDepth 100000 in
set_option maxHeartbeats 4000000 in
theorem rEnds_yes (k l v b a : Int) (sa ha : Option Addr) (sn sc hc : Nat) (f : Nat → Int) (w : World) (rp : RP k l v b (v / b)) (a1 : 0 ≤ a) (a2 : a ≤ 1099511627776) (hm : MaySums l b (a / (v / b)) sn f) (hf : SumsAt w sa sn f) :
    Calls Try.prog 18 #[.agg #[.int .i64 k, .int .i64 l, .int .i64 v, .int .i64 b], .agg #[.int .i64 a, .int .i64 0, .slice sa sn sc, .slice ha 0 hc]] w fun e w' => e = .returned (.int .i64 (a + waitV (fun m => cntV b (a / (v / b)) m sn f) (v / b) (a / (v / b)) b a 0)) ∧ Below w.heap.size w w' := by
  have MK := Lib.hid (fun u (hu : Below w.heap.size w u) => rMay_yes k l v b (v / b) a sa ha sn sc hc f u rp a1 a2 hm (hf.below hu))
  obtain ⟨l1, l2, v1, v2, b1, b2, s1, s2, _⟩ := rp.bd
  have LV := Lib.hid (fun u (hu : Below w.heap.size w u) => wait_any k l v b (v / b) a a 0 sa ha sn sc hc f u rp a1 a2 (Int.le_refl _) a2 hm.len (hf.below hu) (hm.bd l2))
  obtain ⟨q0, q1, _⟩ := wait_nn (C := fun m => cntV b (a / (v / b)) m sn f) (most := 0) s1 s2 a1 b1 b2
  have HP := Lib.hid (PC.made w k l v b a 0 (.slice sa sn sc) (.slice ha 0 hc) 23 27)
  clear hm hf rp
  generalize waitV (fun m => cntV b (a / (v / b)) m sn f) (v / b) (a / (v / b)) b a 0 = WV at *
  have e1 : IntKind.i64.wrap (a + WV) = a + WV := wrap_i (by omega) (by omega)
  go_enter Try.func18, Try.ntmps18
  go_wp2_with fail
  refine (MK.out _ HP.out.be).mono ?_; rintro e w1 ⟨rfl, hb⟩
  have H1 := Lib.hid (HP.out.step hb)
  clear hb HP MK
  obtain ⟨z0, z1, z2, z3, z4, z5, z6, z7⟩ := H1.out.eight
  go_wp2_with fail
  go_region_held3 (fun w' => w'.cell? ⟨w.heap.size, 0, none⟩ = some (.int .i64 k) ∧ w'.cell? ⟨w.heap.size, 1, none⟩ = some (.int .i64 l) ∧ w'.cell? ⟨w.heap.size, 2, none⟩ = some (.int .i64 v) ∧ w'.cell? ⟨w.heap.size, 3, none⟩ = some (.int .i64 b) ∧ w'.cell? ⟨w.heap.size + 1, 0, none⟩ = some (.int .i64 a) ∧ w'.cell? ⟨w.heap.size + 1, 1, none⟩ = some (.int .i64 0) ∧ w'.cell? ⟨w.heap.size + 1, 2, none⟩ = some (.slice sa sn sc) ∧ w'.cell? ⟨w.heap.size + 1, 3, none⟩ = some (.slice ha 0 hc)) (first | (with_reducible exact H1.out.drew.eight) | (with_reducible exact H2.out.eight) | go_keep) (first | (go_at_call 31; (with_reducible refine (LV.out _ H1.out.drew.be).mono ?_); rintro e w2 ⟨rfl, hb⟩; have H2 := Lib.hid (H1.out.drew.step hb); clear hb))
  all_goals (go_wp2_with fail; go_ret; exact ⟨rfl, H2.out.be⟩)
end Go.Proofs.Ytbmjpfcnagodaaa
