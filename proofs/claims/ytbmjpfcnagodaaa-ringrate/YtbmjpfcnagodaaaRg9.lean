/- The contracts of ring's May and of the document's, where they tell false. WRITTEN BY gen_rg9.py. -/
import Derived.Test.YtbmjpfcnagodaaaRgPure3
-- prune
namespace Go.Proofs.Ytbmjpfcnagodaaa
open Go.ChangeShapes Go.WideShapes Go.ChangeAt Go.RowKit
set_option linter.unusedVariables false

/-- A cell that may be one of a ring. -/
structure MayR (k l v b a n : Int) (sn hn : Nat) (f : Nat → Int) : Prop where
  p : MayP k l v b
  k3 : k = 3
  a1 : 0 ≤ a
  a2 : a ≤ 1099511627776
  n0 : n = 0
  h0 : hn = 0
  s : MaySums l b (a / (v / b)) sn f
theorem MayR.rp {k l v b a n : Int} {sn hn : Nat} {f : Nat → Int} (h : MayR k l v b a n sn hn f) : RP k l v b (v / b) := ⟨h.p, h.k3, rfl⟩

set_option maxRecDepth 100000 in
set_option maxHeartbeats 4000000 in
theorem May_p (k l v b a n : Int) (sa ha : Option Addr) (sn sc hn hc : Nat) (w : World) (h : ¬ MayP k l v b) : Calls Try.prog 13 #[.agg #[.int .i64 k, .int .i64 l, .int .i64 v, .int .i64 b], .agg #[.int .i64 a, .int .i64 n, .slice sa sn sc, .slice ha hn hc]] w fun e w' => e = .returned (.bool false) ∧ Below w.heap.size w w' := by
  have CK := Lib.hid (fun u => Check_no k l v b u h)
  clear h
  have HP := Lib.hid (PC.made w k l v b a n (.slice sa sn sc) (.slice ha hn hc) 23 27)
  go_enter Try.func13, Try.ntmps13
  go_wp2_with fail
  refine (CK.out _).mono ?_; rintro e w1 ⟨rfl, hb⟩
  have H1 := Lib.hid (HP.out.step hb)
  clear hb HP
  obtain ⟨z0, z1, z2, z3, z4, z5, z6, z7⟩ := H1.out.eight
  go_wp2_with fail
  go_ret
  exact ⟨rfl, H1.out.be⟩

set_option maxRecDepth 100000 in
set_option maxHeartbeats 4000000 in
theorem May_k (k l v b a n : Int) (sa ha : Option Addr) (sn sc hn hc : Nat) (w : World) (h : MayP k l v b) (hk : ¬ k = 3) : Calls Try.prog 13 #[.agg #[.int .i64 k, .int .i64 l, .int .i64 v, .int .i64 b], .agg #[.int .i64 a, .int .i64 n, .slice sa sn sc, .slice ha hn hc]] w fun e w' => e = .returned (.bool false) ∧ Below w.heap.size w w' := by
  have CK := Lib.hid (fun u => Check_yes k l v b u h)
  have tk : (k != 3) = true := by simp [hk]
  clear h hk
  have HP := Lib.hid (PC.made w k l v b a n (.slice sa sn sc) (.slice ha hn hc) 23 27)
  go_enter Try.func13, Try.ntmps13
  go_wp2_with fail
  refine (CK.out _).mono ?_; rintro e w1 ⟨rfl, hb⟩
  have H1 := Lib.hid (HP.out.step hb)
  clear hb HP
  obtain ⟨z0, z1, z2, z3, z4, z5, z6, z7⟩ := H1.out.eight
  go_wp2_with fail
  go_ret
  exact ⟨rfl, H1.out.be⟩

set_option maxRecDepth 100000 in
set_option maxHeartbeats 4000000 in
theorem May_a (k l v b a n : Int) (sa ha : Option Addr) (sn sc hn hc : Nat) (w : World) (h : MayP k l v b) (hk : k = 3) (ha1 : ¬ (0 ≤ a ∧ a ≤ 1099511627776)) : Calls Try.prog 13 #[.agg #[.int .i64 k, .int .i64 l, .int .i64 v, .int .i64 b], .agg #[.int .i64 a, .int .i64 n, .slice sa sn sc, .slice ha hn hc]] w fun e w' => e = .returned (.bool false) ∧ Below w.heap.size w w' := by
  have CK := Lib.hid (fun u => Check_yes k l v b u h)
  have tk : (k != 3) = false := by simp [hk]
  have TK := Lib.hid (fun u => isTick_no a u ha1)
  clear h hk ha1
  have HP := Lib.hid (PC.made w k l v b a n (.slice sa sn sc) (.slice ha hn hc) 23 27)
  go_enter Try.func13, Try.ntmps13
  go_wp2_with fail
  refine (CK.out _).mono ?_; rintro e w1 ⟨rfl, hb⟩
  have H1 := Lib.hid (HP.out.step hb)
  clear hb HP
  obtain ⟨z0, z1, z2, z3, z4, z5, z6, z7⟩ := H1.out.eight
  go_wp2_with fail
  refine (TK.out _).mono ?_; rintro e w' ⟨rfl, rfl⟩
  go_wp2_with fail
  go_ret
  exact ⟨rfl, H1.out.be⟩

set_option maxRecDepth 100000 in
set_option maxHeartbeats 4000000 in
theorem May_n (k l v b a n : Int) (sa ha : Option Addr) (sn sc hn hc : Nat) (w : World) (h : MayP k l v b) (hk : k = 3) (a1 : 0 ≤ a) (a2 : a ≤ 1099511627776) (hn1 : ¬ n = 0) : Calls Try.prog 13 #[.agg #[.int .i64 k, .int .i64 l, .int .i64 v, .int .i64 b], .agg #[.int .i64 a, .int .i64 n, .slice sa sn sc, .slice ha hn hc]] w fun e w' => e = .returned (.bool false) ∧ Below w.heap.size w w' := by
  have CK := Lib.hid (fun u => Check_yes k l v b u h)
  have tk : (k != 3) = false := by simp [hk]
  have TK := Lib.hid (fun u => isTick_yes a u a1 a2)
  have tn : (n == 0) = false := by simp [hn1]
  have tn' : (n != 0) = true := by simp [hn1]
  clear h hk hn1
  have HP := Lib.hid (PC.made w k l v b a n (.slice sa sn sc) (.slice ha hn hc) 23 27)
  go_enter Try.func13, Try.ntmps13
  go_wp2_with fail
  refine (CK.out _).mono ?_; rintro e w1 ⟨rfl, hb⟩
  have H1 := Lib.hid (HP.out.step hb)
  clear hb HP
  obtain ⟨z0, z1, z2, z3, z4, z5, z6, z7⟩ := H1.out.eight
  go_wp2_with fail
  refine (TK.out _).mono ?_; rintro e w' ⟨rfl, rfl⟩
  go_wp2_with fail
  go_ret
  exact ⟨rfl, H1.out.be⟩

set_option maxRecDepth 100000 in
set_option maxHeartbeats 4000000 in
theorem May_h (k l v b a n : Int) (sa ha : Option Addr) (sn sc hn hc : Nat) (w : World) (h : MayP k l v b) (hk : k = 3) (a1 : 0 ≤ a) (a2 : a ≤ 1099511627776) (hn1 : n = 0) (hh : ¬ hn = 0) (hx : hn ≤ maxLen) : Calls Try.prog 13 #[.agg #[.int .i64 k, .int .i64 l, .int .i64 v, .int .i64 b], .agg #[.int .i64 a, .int .i64 n, .slice sa sn sc, .slice ha hn hc]] w fun e w' => e = .returned (.bool false) ∧ Below w.heap.size w w' := by
  have CK := Lib.hid (fun u => Check_yes k l v b u h)
  have tk : (k != 3) = false := by simp [hk]
  have TK := Lib.hid (fun u => isTick_yes a u a1 a2)
  unfold maxLen at hx
  have tn : (n == 0) = true := by simp [hn1]
  have tn' : (n != 0) = false := by simp [hn1]
  have th : ((hn : Int) == 0) = false := by simp; omega
  have th' : ((hn : Int) != 0) = true := by simp; omega
  clear h hk hn1
  have HP := Lib.hid (PC.made w k l v b a n (.slice sa sn sc) (.slice ha hn hc) 23 27)
  go_enter Try.func13, Try.ntmps13
  go_wp2_with fail
  refine (CK.out _).mono ?_; rintro e w1 ⟨rfl, hb⟩
  have H1 := Lib.hid (HP.out.step hb)
  clear hb HP
  obtain ⟨z0, z1, z2, z3, z4, z5, z6, z7⟩ := H1.out.eight
  go_wp2_with fail
  refine (TK.out _).mono ?_; rintro e w' ⟨rfl, rfl⟩
  go_wp2_with fail
  go_ret
  exact ⟨rfl, H1.out.be⟩

set_option maxRecDepth 100000 in
set_option maxHeartbeats 4000000 in
theorem rMay_p (k l v b a n : Int) (sa ha : Option Addr) (sn sc hn hc : Nat) (w : World) (h : ¬ MayP k l v b) : Calls Try.prog 14 #[.agg #[.int .i64 k, .int .i64 l, .int .i64 v, .int .i64 b], .agg #[.int .i64 a, .int .i64 n, .slice sa sn sc, .slice ha hn hc]] w fun e w' => e = .returned (.bool false) ∧ Below w.heap.size w w' := by
  have CK := Lib.hid (fun u => rCheck_no k l v b u h)
  clear h
  have HP := Lib.hid (PC.made w k l v b a n (.slice sa sn sc) (.slice ha hn hc) 23 27)
  go_enter Try.func14, Try.ntmps14
  go_wp2_with fail
  refine (CK.out _).mono ?_; rintro e w1 ⟨rfl, hb⟩
  have H1 := Lib.hid (HP.out.step hb)
  clear hb HP
  obtain ⟨z0, z1, z2, z3, z4, z5, z6, z7⟩ := H1.out.eight
  go_wp2_with fail
  go_ret
  exact ⟨rfl, H1.out.be⟩

set_option maxRecDepth 100000 in
set_option maxHeartbeats 4000000 in
theorem rMay_k (k l v b a n : Int) (sa ha : Option Addr) (sn sc hn hc : Nat) (w : World) (h : MayP k l v b) (hk : ¬ k = 3) : Calls Try.prog 14 #[.agg #[.int .i64 k, .int .i64 l, .int .i64 v, .int .i64 b], .agg #[.int .i64 a, .int .i64 n, .slice sa sn sc, .slice ha hn hc]] w fun e w' => e = .returned (.bool false) ∧ Below w.heap.size w w' := by
  have CK := Lib.hid (fun u => rCheck_yes k l v b u h)
  have tk : (k != 3) = true := by simp [hk]
  clear h hk
  have HP := Lib.hid (PC.made w k l v b a n (.slice sa sn sc) (.slice ha hn hc) 23 27)
  go_enter Try.func14, Try.ntmps14
  go_wp2_with fail
  refine (CK.out _).mono ?_; rintro e w1 ⟨rfl, hb⟩
  have H1 := Lib.hid (HP.out.step hb)
  clear hb HP
  obtain ⟨z0, z1, z2, z3, z4, z5, z6, z7⟩ := H1.out.eight
  go_wp2_with fail
  go_ret
  exact ⟨rfl, H1.out.be⟩

set_option maxRecDepth 100000 in
set_option maxHeartbeats 4000000 in
theorem rMay_a (k l v b a n : Int) (sa ha : Option Addr) (sn sc hn hc : Nat) (w : World) (h : MayP k l v b) (hk : k = 3) (ha1 : ¬ (0 ≤ a ∧ a ≤ 1099511627776)) : Calls Try.prog 14 #[.agg #[.int .i64 k, .int .i64 l, .int .i64 v, .int .i64 b], .agg #[.int .i64 a, .int .i64 n, .slice sa sn sc, .slice ha hn hc]] w fun e w' => e = .returned (.bool false) ∧ Below w.heap.size w w' := by
  have CK := Lib.hid (fun u => rCheck_yes k l v b u h)
  have tk : (k != 3) = false := by simp [hk]
  have TK := Lib.hid (fun u => rTime_no a u ha1)
  clear h hk ha1
  have HP := Lib.hid (PC.made w k l v b a n (.slice sa sn sc) (.slice ha hn hc) 23 27)
  go_enter Try.func14, Try.ntmps14
  go_wp2_with fail
  refine (CK.out _).mono ?_; rintro e w1 ⟨rfl, hb⟩
  have H1 := Lib.hid (HP.out.step hb)
  clear hb HP
  obtain ⟨z0, z1, z2, z3, z4, z5, z6, z7⟩ := H1.out.eight
  go_wp2_with fail
  refine (TK.out _).mono ?_; rintro e w' ⟨rfl, rfl⟩
  go_wp2_with fail
  go_ret
  exact ⟨rfl, H1.out.be⟩

set_option maxRecDepth 100000 in
set_option maxHeartbeats 4000000 in
theorem rMay_n (k l v b a n : Int) (sa ha : Option Addr) (sn sc hn hc : Nat) (w : World) (h : MayP k l v b) (hk : k = 3) (a1 : 0 ≤ a) (a2 : a ≤ 1099511627776) (hn1 : ¬ n = 0) : Calls Try.prog 14 #[.agg #[.int .i64 k, .int .i64 l, .int .i64 v, .int .i64 b], .agg #[.int .i64 a, .int .i64 n, .slice sa sn sc, .slice ha hn hc]] w fun e w' => e = .returned (.bool false) ∧ Below w.heap.size w w' := by
  have CK := Lib.hid (fun u => rCheck_yes k l v b u h)
  have tk : (k != 3) = false := by simp [hk]
  have TK := Lib.hid (fun u => rTime_yes a u a1 a2)
  have tn : (n == 0) = false := by simp [hn1]
  have tn' : (n != 0) = true := by simp [hn1]
  clear h hk hn1
  have HP := Lib.hid (PC.made w k l v b a n (.slice sa sn sc) (.slice ha hn hc) 23 27)
  go_enter Try.func14, Try.ntmps14
  go_wp2_with fail
  refine (CK.out _).mono ?_; rintro e w1 ⟨rfl, hb⟩
  have H1 := Lib.hid (HP.out.step hb)
  clear hb HP
  obtain ⟨z0, z1, z2, z3, z4, z5, z6, z7⟩ := H1.out.eight
  go_wp2_with fail
  refine (TK.out _).mono ?_; rintro e w' ⟨rfl, rfl⟩
  go_wp2_with fail
  go_ret
  exact ⟨rfl, H1.out.be⟩

set_option maxRecDepth 100000 in
set_option maxHeartbeats 4000000 in
theorem rMay_h (k l v b a n : Int) (sa ha : Option Addr) (sn sc hn hc : Nat) (w : World) (h : MayP k l v b) (hk : k = 3) (a1 : 0 ≤ a) (a2 : a ≤ 1099511627776) (hn1 : n = 0) (hh : ¬ hn = 0) (hx : hn ≤ maxLen) : Calls Try.prog 14 #[.agg #[.int .i64 k, .int .i64 l, .int .i64 v, .int .i64 b], .agg #[.int .i64 a, .int .i64 n, .slice sa sn sc, .slice ha hn hc]] w fun e w' => e = .returned (.bool false) ∧ Below w.heap.size w w' := by
  have CK := Lib.hid (fun u => rCheck_yes k l v b u h)
  have tk : (k != 3) = false := by simp [hk]
  have TK := Lib.hid (fun u => rTime_yes a u a1 a2)
  unfold maxLen at hx
  have tn : (n == 0) = true := by simp [hn1]
  have tn' : (n != 0) = false := by simp [hn1]
  have th : ((hn : Int) == 0) = false := by simp; omega
  have th' : ((hn : Int) != 0) = true := by simp; omega
  clear h hk hn1
  have HP := Lib.hid (PC.made w k l v b a n (.slice sa sn sc) (.slice ha hn hc) 23 27)
  go_enter Try.func14, Try.ntmps14
  go_wp2_with fail
  refine (CK.out _).mono ?_; rintro e w1 ⟨rfl, hb⟩
  have H1 := Lib.hid (HP.out.step hb)
  clear hb HP
  obtain ⟨z0, z1, z2, z3, z4, z5, z6, z7⟩ := H1.out.eight
  go_wp2_with fail
  refine (TK.out _).mono ?_; rintro e w' ⟨rfl, rfl⟩
  go_wp2_with fail
  go_ret
  exact ⟨rfl, H1.out.be⟩

set_option maxRecDepth 100000 in
set_option maxHeartbeats 4000000 in
theorem maySums_len (k l v b sl a : Int) (sa ha : Option Addr) (sn sc hc : Nat) (f : Nat → Int) (w : World) (h : RP k l v b sl) (a1 : 0 ≤ a) (a2 : a ≤ 1099511627776) (hm : ¬ (sn = 0 ∨ (sn : Int) = b)) (hx : sn ≤ maxLen) : Calls Try.prog 33 #[.agg #[.int .i64 k, .int .i64 l, .int .i64 v, .int .i64 b], .agg #[.int .i64 a, .int .i64 0, .slice sa sn sc, .slice ha 0 hc]] w fun e w' => e = .returned (.bool false) ∧ Below w.heap.size w w' := by
  unfold maxLen at hx
  have t1 : ((sn : Int) != 0) = true := by simp; omega
  have t2 : ((sn : Int) != b) = true := by simp; omega
  clear h hm
  have HP := Lib.hid (PC.made w k l v b a 0 (.slice sa sn sc) (.slice ha 0 hc) 23 27)
  go_enter Try.func33, Try.ntmps33
  go_wp2_with fail
  go_ret
  exact ⟨rfl, HP.out.be⟩
/-- The first i sums may be. -/
def GoodS (l N : Int) (f : Nat → Int) (i : Nat) : Prop := ∀ j, j < i → 0 ≤ f j ∧ sumF f j + f j ≤ l ∧ (0 < f j → (j : Int) ≤ N)
theorem GoodS.sum {l N : Int} {f : Nat → Int} {i : Nat} (h : GoodS l N f i) (hl : 0 ≤ l) : 0 ≤ sumF f i ∧ sumF f i ≤ l := by
  induction i with
  | zero => simp only [sumF]; omega
  | succ i ih =>
    have h1 := ih (fun j hj => h j (by omega))
    have h2 := h i (by omega)
    simp only [sumF]; omega
theorem GoodS.all {l b N : Int} {f : Nat → Int} {sn : Nat} (h : GoodS l N f sn) (hl : 0 ≤ l) (hs : sn = 0 ∨ (sn : Int) = b) : MaySums l b N sn f := by
  refine ⟨hs, fun i hi => ?_, (h.sum hl).2⟩
  have h1 : GoodS l N f i := fun j hj => h j (by omega)
  have h2 := h1.sum hl
  have h3 := h i hi
  exact ⟨h3.1, by omega, h3.2.2⟩
theorem GoodS.next {l N : Int} {f : Nat → Int} {i : Nat} (h : GoodS l N f i) (h1 : 0 ≤ f i) (h2 : sumF f i + f i ≤ l) (h3 : 0 < f i → (i : Int) ≤ N) : GoodS l N f (i + 1) := fun j hj => by
  by_cases e : j = i
  · subst e; exact ⟨h1, h2, h3⟩
  · exact h j (by omega)

set_option maxRecDepth 100000 in
set_option maxHeartbeats 4000000 in
theorem maySums_no (k l v b sl a : Int) (sa ha : Option Addr) (sn sc hc : Nat) (f : Nat → Int) (w : World) (h : RP k l v b sl) (a1 : 0 ≤ a) (a2 : a ≤ 1099511627776) (hs : sn = 0 ∨ (sn : Int) = b) (hm : ¬ MaySums l b (a / sl) sn f) (hf : SumsAt w sa sn f) : Calls Try.prog 33 #[.agg #[.int .i64 k, .int .i64 l, .int .i64 v, .int .i64 b], .agg #[.int .i64 a, .int .i64 0, .slice sa sn sc, .slice ha 0 hc]] w fun e w' => e = .returned (.bool false) ∧ Below w.heap.size w w' := by
  have BG := Lib.hid (fun u (i : Nat) (r : Bool) (hr : decide ((i : Int) ≤ a / sl) = r) (h16 : i ≤ 16) => begun_any k l v b sl a 0 (i : Int) sa ha sn sc 0 hc u h a1 a2 (by omega) (by omega) r hr)
  obtain ⟨l1, l2, v1, v2, b1, b2, s1, s2, _⟩ := h.bd
  have HM := Lib.hid hm
  have HF := Lib.hid hf
  have HS0 := Lib.hid hs
  have hn16 : sn ≤ 16 := by rcases hs with e | e <;> omega
  have HP := Lib.hid (PC.made w k l v b a 0 (.slice sa sn sc) (.slice ha 0 hc) 23 27)
  have T12 : (((sn : Int) != 0) = false) ∨ (((sn : Int) != 0) = true ∧ ((sn : Int) != b) = false) := by
    rcases hs with e | e
    · exact .inl (by simp [e])
    · exact .inr ⟨by simp; omega, by simp [e]⟩
  clear h hm hf a1 a2 v1 v2 s1 s2 hs
  generalize a / sl = N at *
  rcases T12 with t1 | ⟨t1, t2⟩
  all_goals
    go_enter Try.func33, Try.ntmps33
    go_wp2_with fail
    generalize (w.alloc (.cells #[.int .i64 k, .int .i64 l, .int .i64 v, .int .i64 b] 23)).alloc (.cells #[.int .i64 a, .int .i64 0, .slice sa sn sc, .slice ha 0 hc] 27) = w0 at HP ⊢
    go_loopw [5, 25] (fun vl vi wr => ∃ i : Nat, i ≤ sn ∧ vi = .int .i64 (i : Int) ∧ vl = .int .i64 (l - sumF f i) ∧ Hid (GoodS l N f i) ∧ PC w k l v b a 0 (.slice sa sn sc) (.slice ha 0 hc) wr) (fun _ vi _ => sn - (intOf vi).toNat)
    case atStart => exact ⟨0, Nat.zero_le _, rfl, by simp [sumF], Lib.hid (fun j hj => absurd hj (by omega)), HP.out⟩
    case round =>
      obtain ⟨i, hi, rfl, rfl, HG, hr⟩ := hrel
      have R1 := Lib.hid hr
      clear hr HP t1
      obtain ⟨c1, c2⟩ := HG.out.sum (by omega)
      obtain ⟨z0, z1, z2, z3, z4, z5, z6, z7⟩ := R1.out.eight
      by_cases hlt : i < sn
      · obtain ⟨g1, o1, rfl, hl, hcell⟩ := HF.out (by omega)
        have HS := Lib.hid (show sumF f (i + 1) = sumF f i + f i from rfl)
        have HN := Lib.hid (fun h1 h2 h3 => HG.out.next (i := i) h1 h2 h3)
        have x0 := (R1.out.be.cell (p := ⟨g1, o1 + i, none⟩) hl).trans (hcell i hlt)
        clear hcell
        generalize f i = x at *
        generalize sumF f i = c at *
        have B0 : (0 : Int) ≤ (i : Int) := by omega
        have B1 : (i : Int) < (sn : Int) := by omega
        by_cases y1 : x < 0
        · go_wp2_with fail
          go_ret
          exact ⟨rfl, R1.out.be⟩
        · have y1' : 0 ≤ x := by omega
          by_cases y2 : l - c < x
          · go_wp2_with fail
            go_ret
            exact ⟨rfl, R1.out.be⟩
          · have y2' : x ≤ l - c := by omega
            clear y1 y2
            by_cases hx : 0 < x
            · by_cases hN : (i : Int) ≤ N
              · have CB := Lib.hid (BG.out · i true (by simpa using hN) (by omega))
                have HX := Lib.hid (HN.out y1' (by omega) (fun _ => hN))
                clear hN
                go_wp2_with fail
                refine (CB.out _).mono ?_; rintro e w2 ⟨rfl, hb⟩
                have R2 := Lib.hid (R1.out.step hb)
                clear hb
                go_wp2_with fail
                go_roundw
                case rel => exact ⟨i + 1, by omega, by go_num, by rw [HS.out]; congr 1; omega, HX, R2.out⟩
                case measure => simp [intOf]; omega
              · have CB := Lib.hid (BG.out · i false (by simpa using hN) (by omega))
                clear hN
                go_wp2_with fail
                refine (CB.out _).mono ?_; rintro e w2 ⟨rfl, hb⟩
                have R2 := Lib.hid (R1.out.step hb)
                clear hb
                go_wp2_with fail
                go_ret
                exact ⟨rfl, R2.out.be⟩
            · have HX := Lib.hid (HN.out y1' (by omega) (fun h => absurd h hx))
              go_wp2_with fail
              go_roundw
              case rel => exact ⟨i + 1, by omega, by go_num, by rw [HS.out]; congr 1; omega, HX, R1.out⟩
              case measure => simp [intOf]; omega
      · exfalso
        have e : i = sn := by omega
        subst e
        exact HM.out (HG.out.all (by omega) HS0.out)

set_option maxRecDepth 100000 in
set_option maxHeartbeats 4000000 in
theorem May_s (k l v b sl a : Int) (sa ha : Option Addr) (sn sc hc : Nat) (f : Nat → Int) (w : World) (h : RP k l v b sl) (a1 : 0 ≤ a) (a2 : a ≤ 1099511627776) (hx : sn ≤ maxLen) (hm : ¬ MaySums l b (a / sl) sn f) (hf : SumsAt w sa sn f) : Calls Try.prog 13 #[.agg #[.int .i64 k, .int .i64 l, .int .i64 v, .int .i64 b], .agg #[.int .i64 a, .int .i64 0, .slice sa sn sc, .slice ha 0 hc]] w fun e w' => e = .returned (.bool false) ∧ Below w.heap.size w w' := by
  have CK := Lib.hid (fun u => Check_yes k l v b u h.p)
  have TK := Lib.hid (fun u => isTick_yes a u a1 a2)
  have MS := Lib.hid (fun u (hu : Below w.heap.size w u) => by
    by_cases hs : sn = 0 ∨ (sn : Int) = b
    · exact maySums_no k l v b sl a sa ha sn sc hc f u h a1 a2 hs hm (hf.below hu)
    · exact maySums_len k l v b sl a sa ha sn sc hc f u h a1 a2 hs hx)
  have tk : (k != 3) = false := by simp [h.k3]
  have HP := Lib.hid (PC.made w k l v b a 0 (.slice sa sn sc) (.slice ha 0 hc) 23 27)
  clear h hm hf
  go_enter Try.func13, Try.ntmps13
  go_wp2_with fail
  refine (CK.out _).mono ?_; rintro e w1 ⟨rfl, hb⟩
  have H1 := Lib.hid (HP.out.step hb)
  clear hb HP
  obtain ⟨z0, z1, z2, z3, z4, z5, z6, z7⟩ := H1.out.eight
  go_wp2_with fail
  refine (TK.out _).mono ?_; rintro e w' ⟨rfl, rfl⟩
  go_wp2_with fail
  refine (MS.out _ H1.out.be).mono ?_; rintro e w2 ⟨rfl, hb⟩
  have H2 := Lib.hid (H1.out.step hb)
  clear hb
  go_wp2_with fail
  go_ret
  exact ⟨rfl, H2.out.be⟩

set_option maxRecDepth 100000 in
set_option maxHeartbeats 4000000 in
theorem rMay_len (k l v b sl a : Int) (sa ha : Option Addr) (sn sc hc : Nat) (f : Nat → Int) (w : World) (h : RP k l v b sl) (a1 : 0 ≤ a) (a2 : a ≤ 1099511627776) (hm : ¬ (sn = 0 ∨ (sn : Int) = b)) (hx : sn ≤ maxLen) : Calls Try.prog 14 #[.agg #[.int .i64 k, .int .i64 l, .int .i64 v, .int .i64 b], .agg #[.int .i64 a, .int .i64 0, .slice sa sn sc, .slice ha 0 hc]] w fun e w' => e = .returned (.bool false) ∧ Below w.heap.size w w' := by
  have CK := Lib.hid (fun u => rCheck_yes k l v b u h.p)
  have TK := Lib.hid (fun u => rTime_yes a u a1 a2)
  have hk3 : (k != 3) = false := by simp [h.k3]
  unfold maxLen at hx
  have t1 : ((sn : Int) != 0) = true := by simp; omega
  have t2 : ((sn : Int) != b) = true := by simp; omega
  clear h hm
  have HP := Lib.hid (PC.made w k l v b a 0 (.slice sa sn sc) (.slice ha 0 hc) 23 27)
  go_enter Try.func14, Try.ntmps14
  go_wp2_with fail
  refine (CK.out _).mono ?_; rintro e w1 ⟨rfl, hb⟩
  have H1 := Lib.hid (HP.out.step hb)
  clear hb HP
  obtain ⟨z0, z1, z2, z3, z4, z5, z6, z7⟩ := H1.out.eight
  go_wp2_with fail
  refine (TK.out _).mono ?_; rintro e w' ⟨rfl, rfl⟩
  go_wp2_with fail
  go_ret
  exact ⟨rfl, H1.out.be⟩
/-- The first i sums, each by itself. -/
def GoodT (l N : Int) (f : Nat → Int) (i : Nat) : Prop := ∀ j, j < i → 0 ≤ f j ∧ f j ≤ l ∧ (0 < f j → (j : Int) ≤ N)
theorem GoodT.sum {l N : Int} {f : Nat → Int} {i : Nat} (h : GoodT l N f i) (hl : l ≤ 1048576) : 0 ≤ sumF f i ∧ sumF f i ≤ i * 1048576 := sumF_bd (fun j hj => ⟨(h j hj).1, (h j hj).2.1⟩) hl i (Nat.le_refl _)
theorem GoodT.next {l N : Int} {f : Nat → Int} {i : Nat} (h : GoodT l N f i) (h1 : 0 ≤ f i) (h2 : f i ≤ l) (h3 : 0 < f i → (i : Int) ≤ N) : GoodT l N f (i + 1) := fun j hj => by
  by_cases e : j = i
  · subst e; exact ⟨h1, h2, h3⟩
  · exact h j (by omega)

set_option maxRecDepth 100000 in
set_option maxHeartbeats 4000000 in
theorem rMay_sums (k l v b sl a : Int) (sa ha : Option Addr) (sn sc hc : Nat) (f : Nat → Int) (w : World) (h : RP k l v b sl) (a1 : 0 ≤ a) (a2 : a ≤ 1099511627776) (hs : sn = 0 ∨ (sn : Int) = b) (hm : ¬ MaySums l b (a / sl) sn f) (hf : SumsAt w sa sn f) : Calls Try.prog 14 #[.agg #[.int .i64 k, .int .i64 l, .int .i64 v, .int .i64 b], .agg #[.int .i64 a, .int .i64 0, .slice sa sn sc, .slice ha 0 hc]] w fun e w' => e = .returned (.bool false) ∧ Below w.heap.size w w' := by
  have CK := Lib.hid (fun u => rCheck_yes k l v b u h.p)
  have TK := Lib.hid (fun u => rTime_yes a u a1 a2)
  have NB := Lib.hid (fun u => number_any k l v b sl a u h a1 (by omega))
  obtain ⟨l1, l2, v1, v2, b1, b2, s1, s2, _⟩ := h.bd
  obtain ⟨d0, d1⟩ := div_bd a1 s1
  have hk3 : (k != 3) = false := by simp [h.k3]
  have HM := Lib.hid hm
  have HF := Lib.hid hf
  have hn16 : sn ≤ 16 := by rcases hs with e | e <;> omega
  have HL := Lib.hid hs
  have HP := Lib.hid (PC.made w k l v b a 0 (.slice sa sn sc) (.slice ha 0 hc) 23 27)
  clear h hm hf a1 a2 d1 v1 v2 s1 s2 hs
  generalize a / sl = N at *
  go_enter Try.func14, Try.ntmps14
  go_wp2_with fail
  refine (CK.out _).mono ?_; rintro e w1 ⟨rfl, hb⟩
  have H1 := Lib.hid (HP.out.step hb)
  clear hb HP
  obtain ⟨z0, z1, z2, z3, z4, z5, z6, z7⟩ := H1.out.eight
  go_wp2_with fail
  refine (TK.out _).mono ?_; rintro e w' ⟨rfl, rfl⟩
  have T12 : (((sn : Int) != 0) = false) ∨ (((sn : Int) != 0) = true ∧ ((sn : Int) != b) = false) := by
    rcases HL.out with e | e
    · exact .inl (by simp [e])
    · exact .inr ⟨by simp; omega, by simp [e]⟩
  rcases T12 with t1 | ⟨t1, t2⟩
  all_goals
    go_wp2_with fail
    go_loopw [5, 6] (fun vn vi wr => ∃ i : Nat, i ≤ sn ∧ vi = .int .i64 (i : Int) ∧ vn = .int .i64 (sumF f i) ∧ Hid (GoodT l N f i) ∧ PC w k l v b a 0 (.slice sa sn sc) (.slice ha 0 hc) wr) (fun _ vi _ => sn - (intOf vi).toNat)
    case atStart => exact ⟨0, Nat.zero_le _, rfl, rfl, Lib.hid (fun j hj => absurd hj (by omega)), H1.out⟩
    case round =>
      obtain ⟨i, hi, rfl, rfl, HG, hr⟩ := hrel
      have R1 := Lib.hid hr
      clear hr H1 z0 z1 z2 z3 z4 z5 z6 z7 t1
      obtain ⟨c1, c2⟩ := HG.out.sum l2
      by_cases hlt : i < sn
      · obtain ⟨g1, o1, rfl, hl, hcell⟩ := HF.out (by omega)
        have X := Lib.hid (hcell i hlt)
        have x0 := (R1.out.be.cell (p := ⟨g1, o1 + i, none⟩) hl).trans X.out
        have HS := Lib.hid (show sumF f (i + 1) = sumF f i + f i from rfl)
        have HN := Lib.hid (fun h1 h2 h3 => HG.out.next (i := i) h1 h2 h3)
        clear hcell
        generalize f i = x at *
        generalize sumF f i = c at *
        have B0 : (0 : Int) ≤ (i : Int) := by omega
        have B1 : (i : Int) < (sn : Int) := by omega
        obtain ⟨z0, z1, z2, z3, z4, z5, z6, z7⟩ := R1.out.eight
        by_cases y1' : x < 0
        · have y1 : decide (x < 0) = true := by simp; omega
          go_wp2_with fail
          go_quiet (fail)
          go_wp2_with fail
          go_ret
          exact ⟨rfl, (R1.out.drewN nq).be⟩
        · have y1 : decide (x < 0) = false := by simp; omega
          by_cases y2' : l < x
          · have y2 : decide (l < x) = true := by simp; omega
            go_wp2_with fail
            go_quiet (fail)
            go_wp2_with fail
            go_ret
            exact ⟨rfl, (R1.out.drewN nq).be⟩
          · have y2 : decide (l < x) = false := by simp; omega
            have y6 : 0 ≤ x := by omega
            have y7 : x ≤ l := by omega
            clear y1' y2'
            by_cases hx : 0 < x
            · have y3 : decide (0 < x) = true := by simp; omega
              by_cases hN : (i : Int) ≤ N
              · have y4 : decide (N < (i : Int)) = false := by simp; omega
                have HX := Lib.hid (HN.out y6 y7 (fun _ => hN))
                clear hN
                go_wp2_with fail
                go_region_held3 (fun w' => w'.cell? ⟨w.heap.size, 0, none⟩ = some (.int .i64 k) ∧ w'.cell? ⟨w.heap.size, 1, none⟩ = some (.int .i64 l) ∧ w'.cell? ⟨w.heap.size, 2, none⟩ = some (.int .i64 v) ∧ w'.cell? ⟨w.heap.size, 3, none⟩ = some (.int .i64 b) ∧ w'.cell? ⟨w.heap.size + 1, 0, none⟩ = some (.int .i64 a) ∧ w'.cell? ⟨w.heap.size + 1, 1, none⟩ = some (.int .i64 0) ∧ w'.cell? ⟨w.heap.size + 1, 2, none⟩ = some (.slice (some ⟨g1, o1, none⟩) sn sc) ∧ w'.cell? ⟨w.heap.size + 1, 3, none⟩ = some (.slice ha 0 hc) ∧ w'.cell? ⟨g1, o1 + i, none⟩ = some (.int .i64 x)) (first | (with_reducible exact K8 R1.out.drew hl X.out) | (with_reducible exact K8 R2.out hl X.out) | go_keep) (first | (go_at_call 28; (with_reducible refine (NB.out _).mono ?_); rintro e w2 ⟨rfl, hb⟩; have R2 := Lib.hid (R1.out.drew.step hb); clear hb))
                all_goals
                  clear z0 z1 z2 z3 z4 z5 z6 z7 x0
                  obtain ⟨z0, z1, z2, z3, z4, z5, z6, z7⟩ := R2.out.eight
                  have x0 := (R2.out.be.cell (p := ⟨g1, o1 + i, none⟩) hl).trans X.out
                  go_wp2_with fail
                  go_roundw
                  case rel => exact ⟨i + 1, by omega, by go_num, by rw [HS.out], HX, R2.out⟩
                  case measure => simp [intOf]; omega
              · have y4 : decide (N < (i : Int)) = true := by simp; omega
                clear hN
                go_wp2_with fail
                go_region_held3 (fun w' => w'.cell? ⟨w.heap.size, 0, none⟩ = some (.int .i64 k) ∧ w'.cell? ⟨w.heap.size, 1, none⟩ = some (.int .i64 l) ∧ w'.cell? ⟨w.heap.size, 2, none⟩ = some (.int .i64 v) ∧ w'.cell? ⟨w.heap.size, 3, none⟩ = some (.int .i64 b) ∧ w'.cell? ⟨w.heap.size + 1, 0, none⟩ = some (.int .i64 a) ∧ w'.cell? ⟨w.heap.size + 1, 1, none⟩ = some (.int .i64 0) ∧ w'.cell? ⟨w.heap.size + 1, 2, none⟩ = some (.slice (some ⟨g1, o1, none⟩) sn sc) ∧ w'.cell? ⟨w.heap.size + 1, 3, none⟩ = some (.slice ha 0 hc) ∧ w'.cell? ⟨g1, o1 + i, none⟩ = some (.int .i64 x)) (first | (with_reducible exact K8 R1.out.drew hl X.out) | (with_reducible exact K8 R2.out hl X.out) | go_keep) (first | (go_at_call 28; (with_reducible refine (NB.out _).mono ?_); rintro e w2 ⟨rfl, hb⟩; have R2 := Lib.hid (R1.out.drew.step hb); clear hb))
                all_goals (go_wp2_with fail; go_ret; exact ⟨rfl, R2.out.be⟩)
            · have y3 : decide (0 < x) = false := by simp; omega
              have HX := Lib.hid (HN.out y6 y7 (fun h => absurd h hx))
              go_wp2_with fail
              go_quiet (fail)
              go_wp2_with fail
              go_roundw
              case rel => exact ⟨i + 1, by omega, by go_num, by rw [HS.out], HX, R1.out.drewN nq⟩
              case measure => simp [intOf]; omega
      · have e : i = sn := by omega
        subst e
        have E : l < sumF f i := by
          rcases Int.lt_or_le l (sumF f i) with q | q
          · exact q
          · exact absurd ⟨HL.out, HG.out, q⟩ HM.out
        generalize sumF f i = c at *
        obtain ⟨z0, z1, z2, z3, z4, z5, z6, z7⟩ := R1.out.eight
        have y5 : decide (c ≤ l) = false := by simp; omega
        go_wp2_with fail
        go_ret
        exact ⟨rfl, R1.out.be⟩
theorem May_no (k l v b a n : Int) (sa ha : Option Addr) (sn sc hn hc : Nat) (w : World) (f : Nat → Int) (h : ¬ MayR k l v b a n sn hn f) (hx : sn ≤ maxLen) (hx2 : hn ≤ maxLen) (hf : SumsAt w sa sn f) : Calls Try.prog 13 #[.agg #[.int .i64 k, .int .i64 l, .int .i64 v, .int .i64 b], .agg #[.int .i64 a, .int .i64 n, .slice sa sn sc, .slice ha hn hc]] w fun e w' => e = .returned (.bool false) ∧ Below w.heap.size w w' := by
  by_cases hp : MayP k l v b
  · by_cases hk : k = 3
    · by_cases ha1 : 0 ≤ a ∧ a ≤ 1099511627776
      · by_cases hn1 : n = 0
        · by_cases hh : hn = 0
          · subst hn1 hh
            have rp : RP k l v b (v / b) := ⟨hp, hk, rfl⟩
            have hm : ¬ MaySums l b (a / (v / b)) sn f := fun q => h ⟨hp, hk, ha1.1, ha1.2, rfl, rfl, q⟩
            exact May_s k l v b _ a sa ha sn sc hc f w rp ha1.1 ha1.2 hx hm hf
          · exact May_h k l v b a n sa ha sn sc hn hc w hp hk ha1.1 ha1.2 hn1 hh hx2
        · exact May_n k l v b a n sa ha sn sc hn hc w hp hk ha1.1 ha1.2 hn1
      · exact May_a k l v b a n sa ha sn sc hn hc w hp hk ha1
    · exact May_k k l v b a n sa ha sn sc hn hc w hp hk
  · exact May_p k l v b a n sa ha sn sc hn hc w hp
theorem rMay_no (k l v b a n : Int) (sa ha : Option Addr) (sn sc hn hc : Nat) (w : World) (f : Nat → Int) (h : ¬ MayR k l v b a n sn hn f) (hx : sn ≤ maxLen) (hx2 : hn ≤ maxLen) (hf : SumsAt w sa sn f) : Calls Try.prog 14 #[.agg #[.int .i64 k, .int .i64 l, .int .i64 v, .int .i64 b], .agg #[.int .i64 a, .int .i64 n, .slice sa sn sc, .slice ha hn hc]] w fun e w' => e = .returned (.bool false) ∧ Below w.heap.size w w' := by
  by_cases hp : MayP k l v b
  · by_cases hk : k = 3
    · by_cases ha1 : 0 ≤ a ∧ a ≤ 1099511627776
      · by_cases hn1 : n = 0
        · by_cases hh : hn = 0
          · subst hn1 hh
            have rp : RP k l v b (v / b) := ⟨hp, hk, rfl⟩
            have hm : ¬ MaySums l b (a / (v / b)) sn f := fun q => h ⟨hp, hk, ha1.1, ha1.2, rfl, rfl, q⟩
            by_cases hs : sn = 0 ∨ (sn : Int) = b
            · exact rMay_sums k l v b _ a sa ha sn sc hc f w rp ha1.1 ha1.2 hs hm hf
            · exact rMay_len k l v b _ a sa ha sn sc hc f w rp ha1.1 ha1.2 hs hx
          · exact rMay_h k l v b a n sa ha sn sc hn hc w hp hk ha1.1 ha1.2 hn1 hh hx2
        · exact rMay_n k l v b a n sa ha sn sc hn hc w hp hk ha1.1 ha1.2 hn1
      · exact rMay_a k l v b a n sa ha sn sc hn hc w hp hk ha1
    · exact rMay_k k l v b a n sa ha sn sc hn hc w hp hk
  · exact rMay_p k l v b a n sa ha sn sc hn hc w hp
end Go.Proofs.Ytbmjpfcnagodaaa
