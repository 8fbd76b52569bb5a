/- The contracts of fixed.May and of the document's own. WRITTEN BY gen_fx1.py. -/
import Derived.Test.YtdmephlappmmdabGc0
-- prune
namespace Go.Proofs.Ytdmephlappmmdab
open Go.ChangeShapes Go.WideShapes Go.ChangeAt Go.RowKit
set_option linter.unusedVariables false

theorem isTick_yes (t : Int) (w : World) (h1 : 0 ≤ t) (h2 : t ≤ 1099511627776) : Calls Try.prog 21 #[.int .i64 t] w fun e w' => e = .returned (.bool true) ∧ w = w' := by
  go_enter Try.func21, Try.ntmps21
  go_wp2
  go_ret
  exact ⟨rfl, rfl⟩
theorem isTick_no (t : Int) (w : World) (h : ¬ (0 ≤ t ∧ t ≤ 1099511627776)) : Calls Try.prog 21 #[.int .i64 t] w fun e w' => e = .returned (.bool false) ∧ w = w' := by
  by_cases h1 : 0 ≤ t
  · have d : decide (t ≤ 1099511627776) = false := by simp; omega
    clear h
    go_enter Try.func21, Try.ntmps21
    go_wp2
    go_ret
    exact ⟨rfl, rfl⟩
  · clear h
    go_enter Try.func21, Try.ntmps21
    go_wp2
    go_ret
    exact ⟨rfl, rfl⟩
/-- Whether a cell may be one of a fixed window. -/
def MayG (k l v b a n : Int) (sn hn : Nat) : Prop := MayP k l v b ∧ k = 2 ∧ (0 ≤ a ∧ a ≤ 1099511627776) ∧ 0 ≤ n ∧ n ≤ l ∧ sn = 0 ∧ hn = 0
instance (k l v b a n : Int) (sn hn : Nat) : Decidable (MayG k l v b a n sn hn) := by unfold MayG; infer_instance
theorem MayP.lv {k l v b : Int} (h : MayP k l v b) : 1 ≤ l ∧ l ≤ 1048576 ∧ 1 ≤ v ∧ v ≤ 1048576 := ⟨h.2.2.2.2.1, h.2.2.2.2.2.1, h.2.2.1, h.2.2.2.1⟩

set_option maxRecDepth 100000 in
set_option maxHeartbeats 2000000 in
theorem May_p (k l v b a n : Int) (sa ha : Option Addr) (sn sc hn hc : Nat) (w : World) (h : ¬ MayP k l v b) :
    Calls Try.prog 13 #[.agg #[.int .i64 k, .int .i64 l, .int .i64 v, .int .i64 b], .agg #[.int .i64 a, .int .i64 n, .slice sa sn sc, .slice ha hn hc]] w fun e w' => e = .returned (.bool false) ∧ Below w.heap.size w w' := by
  have CK := Lib.hid (fun u => Check_no k l v b u h)
  clear h
  have HP := Lib.hid (PC.made w k l v b a n (.slice sa sn sc) (.slice ha hn hc) 23 27)
  go_enter Try.func13, Try.ntmps13
  go_wp2_with fail
  refine (CK.out _).mono ?_; rintro e w1 ⟨rfl, hb⟩
  have hp := HP.out.step hb
  have z0 := hp.p0
  have z4 := hp.c0
  have z1 := hp.p1
  have z5 := hp.c1
  have z2 := hp.p2
  have z6 := hp.c2
  have z3 := hp.p3
  have z7 := hp.c3
  have HQ := Lib.hid hp
  clear hp hb HP CK
  go_wp2_with fail
  go_ret
  exact ⟨rfl, HQ.out.be⟩

set_option maxRecDepth 100000 in
set_option maxHeartbeats 2000000 in
theorem May_k (k l v b a n : Int) (sa ha : Option Addr) (sn sc hn hc : Nat) (w : World) (h : MayP k l v b) (hk : ¬ k = 2) :
    Calls Try.prog 13 #[.agg #[.int .i64 k, .int .i64 l, .int .i64 v, .int .i64 b], .agg #[.int .i64 a, .int .i64 n, .slice sa sn sc, .slice ha hn hc]] w fun e w' => e = .returned (.bool false) ∧ Below w.heap.size w w' := by
  have CK := Lib.hid (fun u => Check_yes k l v b u h)
  have tk : (k != 2) = true := by simp [hk]
  clear h hk
  have HP := Lib.hid (PC.made w k l v b a n (.slice sa sn sc) (.slice ha hn hc) 23 27)
  go_enter Try.func13, Try.ntmps13
  go_wp2_with fail
  refine (CK.out _).mono ?_; rintro e w1 ⟨rfl, hb⟩
  have hp := HP.out.step hb
  have z0 := hp.p0
  have z4 := hp.c0
  have z1 := hp.p1
  have z5 := hp.c1
  have z2 := hp.p2
  have z6 := hp.c2
  have z3 := hp.p3
  have z7 := hp.c3
  have HQ := Lib.hid hp
  clear hp hb HP CK
  go_wp2_with fail
  go_ret
  exact ⟨rfl, HQ.out.be⟩

set_option maxRecDepth 100000 in
set_option maxHeartbeats 2000000 in
theorem May_a (k l v b a n : Int) (sa ha : Option Addr) (sn sc hn hc : Nat) (w : World) (h : MayP k l v b) (hk : k = 2) (ha1 : ¬ (0 ≤ a ∧ a ≤ 1099511627776)) :
    Calls Try.prog 13 #[.agg #[.int .i64 k, .int .i64 l, .int .i64 v, .int .i64 b], .agg #[.int .i64 a, .int .i64 n, .slice sa sn sc, .slice ha hn hc]] w fun e w' => e = .returned (.bool false) ∧ Below w.heap.size w w' := by
  have CK := Lib.hid (fun u => Check_yes k l v b u h)
  have tk : (k != 2) = false := by simp [hk]
  clear hk
  have TK := Lib.hid (fun u => isTick_no a u ha1)
  clear h ha1
  have HP := Lib.hid (PC.made w k l v b a n (.slice sa sn sc) (.slice ha hn hc) 23 27)
  go_enter Try.func13, Try.ntmps13
  go_wp2_with fail
  refine (CK.out _).mono ?_; rintro e w1 ⟨rfl, hb⟩
  have hp := HP.out.step hb
  have z0 := hp.p0
  have z4 := hp.c0
  have z1 := hp.p1
  have z5 := hp.c1
  have z2 := hp.p2
  have z6 := hp.c2
  have z3 := hp.p3
  have z7 := hp.c3
  have HQ := Lib.hid hp
  clear hp hb HP CK
  go_wp2_with fail
  refine (TK.out _).mono ?_; rintro e w' ⟨rfl, rfl⟩
  go_wp2_with fail
  go_ret
  exact ⟨rfl, HQ.out.be⟩

set_option maxRecDepth 100000 in
set_option maxHeartbeats 2000000 in
theorem May_n (k l v b a n : Int) (sa ha : Option Addr) (sn sc hn hc : Nat) (w : World) (h : MayP k l v b) (hk : k = 2) (ha1 : 0 ≤ a) (ha2 : a ≤ 1099511627776) (hn1 : n < 0) :
    Calls Try.prog 13 #[.agg #[.int .i64 k, .int .i64 l, .int .i64 v, .int .i64 b], .agg #[.int .i64 a, .int .i64 n, .slice sa sn sc, .slice ha hn hc]] w fun e w' => e = .returned (.bool false) ∧ Below w.heap.size w w' := by
  have CK := Lib.hid (fun u => Check_yes k l v b u h)
  have tk : (k != 2) = false := by simp [hk]
  clear hk
  have TK := Lib.hid (fun u => isTick_yes a u ha1 ha2)
  have d1 : decide (0 ≤ n) = false := by simp; omega
  clear h
  have HP := Lib.hid (PC.made w k l v b a n (.slice sa sn sc) (.slice ha hn hc) 23 27)
  go_enter Try.func13, Try.ntmps13
  go_wp2_with fail
  refine (CK.out _).mono ?_; rintro e w1 ⟨rfl, hb⟩
  have hp := HP.out.step hb
  have z0 := hp.p0
  have z4 := hp.c0
  have z1 := hp.p1
  have z5 := hp.c1
  have z2 := hp.p2
  have z6 := hp.c2
  have z3 := hp.p3
  have z7 := hp.c3
  have HQ := Lib.hid hp
  clear hp hb HP CK
  go_wp2_with fail
  refine (TK.out _).mono ?_; rintro e w' ⟨rfl, rfl⟩
  go_wp2_with fail
  go_ret
  exact ⟨rfl, HQ.out.be⟩

set_option maxRecDepth 100000 in
set_option maxHeartbeats 2000000 in
theorem May_m (k l v b a n : Int) (sa ha : Option Addr) (sn sc hn hc : Nat) (w : World) (h : MayP k l v b) (hk : k = 2) (ha1 : 0 ≤ a) (ha2 : a ≤ 1099511627776) (hn1 : 0 ≤ n) (hn2 : l < n) :
    Calls Try.prog 13 #[.agg #[.int .i64 k, .int .i64 l, .int .i64 v, .int .i64 b], .agg #[.int .i64 a, .int .i64 n, .slice sa sn sc, .slice ha hn hc]] w fun e w' => e = .returned (.bool false) ∧ Below w.heap.size w w' := by
  have CK := Lib.hid (fun u => Check_yes k l v b u h)
  have tk : (k != 2) = false := by simp [hk]
  clear hk
  have TK := Lib.hid (fun u => isTick_yes a u ha1 ha2)
  have d1 : decide (n ≤ l) = false := by simp; omega
  clear h
  have HP := Lib.hid (PC.made w k l v b a n (.slice sa sn sc) (.slice ha hn hc) 23 27)
  go_enter Try.func13, Try.ntmps13
  go_wp2_with fail
  refine (CK.out _).mono ?_; rintro e w1 ⟨rfl, hb⟩
  have hp := HP.out.step hb
  have z0 := hp.p0
  have z4 := hp.c0
  have z1 := hp.p1
  have z5 := hp.c1
  have z2 := hp.p2
  have z6 := hp.c2
  have z3 := hp.p3
  have z7 := hp.c3
  have HQ := Lib.hid hp
  clear hp hb HP CK
  go_wp2_with fail
  refine (TK.out _).mono ?_; rintro e w' ⟨rfl, rfl⟩
  go_wp2_with fail
  go_ret
  exact ⟨rfl, HQ.out.be⟩

set_option maxRecDepth 100000 in
set_option maxHeartbeats 2000000 in
theorem May_s (k l v b a n : Int) (sa ha : Option Addr) (sn sc hn hc : Nat) (w : World) (h : MayP k l v b) (hk : k = 2) (ha1 : 0 ≤ a) (ha2 : a ≤ 1099511627776) (hn1 : 0 ≤ n) (hn2 : n ≤ l) (hs : sn ≠ 0) :
    Calls Try.prog 13 #[.agg #[.int .i64 k, .int .i64 l, .int .i64 v, .int .i64 b], .agg #[.int .i64 a, .int .i64 n, .slice sa sn sc, .slice ha hn hc]] w fun e w' => e = .returned (.bool false) ∧ Below w.heap.size w w' := by
  have CK := Lib.hid (fun u => Check_yes k l v b u h)
  have tk : (k != 2) = false := by simp [hk]
  clear hk
  have TK := Lib.hid (fun u => isTick_yes a u ha1 ha2)
  have d1 : ((sn : Int) == 0) = false := by simp; omega
  clear h hs
  have HP := Lib.hid (PC.made w k l v b a n (.slice sa sn sc) (.slice ha hn hc) 23 27)
  go_enter Try.func13, Try.ntmps13
  go_wp2_with fail
  refine (CK.out _).mono ?_; rintro e w1 ⟨rfl, hb⟩
  have hp := HP.out.step hb
  have z0 := hp.p0
  have z4 := hp.c0
  have z1 := hp.p1
  have z5 := hp.c1
  have z2 := hp.p2
  have z6 := hp.c2
  have z3 := hp.p3
  have z7 := hp.c3
  have HQ := Lib.hid hp
  clear hp hb HP CK
  go_wp2_with fail
  refine (TK.out _).mono ?_; rintro e w' ⟨rfl, rfl⟩
  go_wp2_with fail
  go_ret
  exact ⟨rfl, HQ.out.be⟩

set_option maxRecDepth 100000 in
set_option maxHeartbeats 2000000 in
theorem May_h (k l v b a n : Int) (sa ha : Option Addr) (sc hn hc : Nat) (w : World) (h : MayP k l v b) (hk : k = 2) (ha1 : 0 ≤ a) (ha2 : a ≤ 1099511627776) (hn1 : 0 ≤ n) (hn2 : n ≤ l) (hh : hn ≠ 0) :
    Calls Try.prog 13 #[.agg #[.int .i64 k, .int .i64 l, .int .i64 v, .int .i64 b], .agg #[.int .i64 a, .int .i64 n, .slice sa 0 sc, .slice ha hn hc]] w fun e w' => e = .returned (.bool false) ∧ Below w.heap.size w w' := by
  have CK := Lib.hid (fun u => Check_yes k l v b u h)
  have tk : (k != 2) = false := by simp [hk]
  clear hk
  have TK := Lib.hid (fun u => isTick_yes a u ha1 ha2)
  have d1 : ((hn : Int) == 0) = false := by simp; omega
  clear h hh
  have HP := Lib.hid (PC.made w k l v b a n (.slice sa 0 sc) (.slice ha hn hc) 23 27)
  go_enter Try.func13, Try.ntmps13
  go_wp2_with fail
  refine (CK.out _).mono ?_; rintro e w1 ⟨rfl, hb⟩
  have hp := HP.out.step hb
  have z0 := hp.p0
  have z4 := hp.c0
  have z1 := hp.p1
  have z5 := hp.c1
  have z2 := hp.p2
  have z6 := hp.c2
  have z3 := hp.p3
  have z7 := hp.c3
  have HQ := Lib.hid hp
  clear hp hb HP CK
  go_wp2_with fail
  refine (TK.out _).mono ?_; rintro e w' ⟨rfl, rfl⟩
  go_wp2_with fail
  go_ret
  exact ⟨rfl, HQ.out.be⟩

set_option maxRecDepth 100000 in
set_option maxHeartbeats 2000000 in
theorem May_yes' (k l v b a n : Int) (sa ha : Option Addr) (sc hc : Nat) (w : World) (h : MayP k l v b) (hk : k = 2) (ha1 : 0 ≤ a) (ha2 : a ≤ 1099511627776) (hn1 : 0 ≤ n) (hn2 : n ≤ l) :
    Calls Try.prog 13 #[.agg #[.int .i64 k, .int .i64 l, .int .i64 v, .int .i64 b], .agg #[.int .i64 a, .int .i64 n, .slice sa 0 sc, .slice ha 0 hc]] w fun e w' => e = .returned (.bool true) ∧ Below w.heap.size w w' := by
  have CK := Lib.hid (fun u => Check_yes k l v b u h)
  have tk : (k != 2) = false := by simp [hk]
  clear hk
  have TK := Lib.hid (fun u => isTick_yes a u ha1 ha2)
  clear h
  have HP := Lib.hid (PC.made w k l v b a n (.slice sa 0 sc) (.slice ha 0 hc) 23 27)
  go_enter Try.func13, Try.ntmps13
  go_wp2_with fail
  refine (CK.out _).mono ?_; rintro e w1 ⟨rfl, hb⟩
  have hp := HP.out.step hb
  have z0 := hp.p0
  have z4 := hp.c0
  have z1 := hp.p1
  have z5 := hp.c1
  have z2 := hp.p2
  have z6 := hp.c2
  have z3 := hp.p3
  have z7 := hp.c3
  have HQ := Lib.hid hp
  clear hp hb HP CK
  go_wp2_with fail
  refine (TK.out _).mono ?_; rintro e w' ⟨rfl, rfl⟩
  go_wp2_with fail
  go_ret
  exact ⟨rfl, HQ.out.be⟩

theorem May_yes (k l v b a n : Int) (sa ha : Option Addr) (sn sc hn hc : Nat) (w : World) (h : MayG k l v b a n sn hn) : Calls Try.prog 13 #[.agg #[.int .i64 k, .int .i64 l, .int .i64 v, .int .i64 b], .agg #[.int .i64 a, .int .i64 n, .slice sa sn sc, .slice ha hn hc]] w fun e w' => e = .returned (.bool true) ∧ Below w.heap.size w w' := by
  obtain ⟨h1, h2, h3, h4, h5, rfl, rfl⟩ := h
  exact May_yes' k l v b a n sa ha sc hc w h1 h2 h3.1 h3.2 h4 h5
theorem May_no (k l v b a n : Int) (sa ha : Option Addr) (sn sc hn hc : Nat) (w : World) (h : ¬ MayG k l v b a n sn hn) : Calls Try.prog 13 #[.agg #[.int .i64 k, .int .i64 l, .int .i64 v, .int .i64 b], .agg #[.int .i64 a, .int .i64 n, .slice sa sn sc, .slice ha hn hc]] w fun e w' => e = .returned (.bool false) ∧ Below w.heap.size w w' := by
  by_cases h1 : MayP k l v b
  · by_cases h2 : k = 2
    · by_cases h3 : 0 ≤ a ∧ a ≤ 1099511627776
      · by_cases h4 : 0 ≤ n
        · by_cases h5 : n ≤ l
          · by_cases h6 : sn = 0
            · subst h6
              exact May_h k l v b a n sa ha sc hn hc w h1 h2 h3.1 h3.2 h4 h5 (fun e => h ⟨h1, h2, h3, h4, h5, rfl, e⟩)
            · exact May_s k l v b a n sa ha sn sc hn hc w h1 h2 h3.1 h3.2 h4 h5 h6
          · exact May_m k l v b a n sa ha sn sc hn hc w h1 h2 h3.1 h3.2 h4 (by omega)
        · exact May_n k l v b a n sa ha sn sc hn hc w h1 h2 h3.1 h3.2 (by omega)
      · exact May_a k l v b a n sa ha sn sc hn hc w h1 h2 h3
    · exact May_k k l v b a n sa ha sn sc hn hc w h1 h2
  · exact May_p k l v b a n sa ha sn sc hn hc w h1

set_option maxRecDepth 100000 in
set_option maxHeartbeats 2000000 in
theorem rMay_p (k l v b a n : Int) (sa ha : Option Addr) (sn sc hn hc : Nat) (w : World) (h : ¬ MayP k l v b) :
    Calls Try.prog 14 #[.agg #[.int .i64 k, .int .i64 l, .int .i64 v, .int .i64 b], .agg #[.int .i64 a, .int .i64 n, .slice sa sn sc, .slice ha hn hc]] w fun e w' => e = .returned (.bool false) ∧ Below w.heap.size w w' := by
  have CK := Lib.hid (fun u => rCheck_no k l v b u h)
  clear h
  have HP := Lib.hid (PC.made w k l v b a n (.slice sa sn sc) (.slice ha hn hc) 23 27)
  go_enter Try.func14, Try.ntmps14
  go_wp2_with fail
  refine (CK.out _).mono ?_; rintro e w1 ⟨rfl, hb⟩
  have hp := HP.out.step hb
  have z0 := hp.p0
  have z4 := hp.c0
  have z1 := hp.p1
  have z5 := hp.c1
  have z2 := hp.p2
  have z6 := hp.c2
  have z3 := hp.p3
  have z7 := hp.c3
  have HQ := Lib.hid hp
  clear hp hb HP CK
  go_wp2_with fail
  go_ret
  exact ⟨rfl, HQ.out.be⟩

set_option maxRecDepth 100000 in
set_option maxHeartbeats 2000000 in
theorem rMay_k (k l v b a n : Int) (sa ha : Option Addr) (sn sc hn hc : Nat) (w : World) (h : MayP k l v b) (hk : ¬ k = 2) :
    Calls Try.prog 14 #[.agg #[.int .i64 k, .int .i64 l, .int .i64 v, .int .i64 b], .agg #[.int .i64 a, .int .i64 n, .slice sa sn sc, .slice ha hn hc]] w fun e w' => e = .returned (.bool false) ∧ Below w.heap.size w w' := by
  have CK := Lib.hid (fun u => rCheck_yes k l v b u h)
  have tk : (k == 2) = false := by simp [hk]
  clear h hk
  have HP := Lib.hid (PC.made w k l v b a n (.slice sa sn sc) (.slice ha hn hc) 23 27)
  go_enter Try.func14, Try.ntmps14
  go_wp2_with fail
  refine (CK.out _).mono ?_; rintro e w1 ⟨rfl, hb⟩
  have hp := HP.out.step hb
  have z0 := hp.p0
  have z4 := hp.c0
  have z1 := hp.p1
  have z5 := hp.c1
  have z2 := hp.p2
  have z6 := hp.c2
  have z3 := hp.p3
  have z7 := hp.c3
  have HQ := Lib.hid hp
  clear hp hb HP CK
  go_wp2_with fail
  go_ret
  exact ⟨rfl, HQ.out.be⟩

set_option maxRecDepth 100000 in
set_option maxHeartbeats 2000000 in
theorem rMay_a (k l v b a n : Int) (sa ha : Option Addr) (sn sc hn hc : Nat) (w : World) (h : MayP k l v b) (hk : k = 2) (ha1 : ¬ (0 ≤ a ∧ a ≤ 1099511627776)) :
    Calls Try.prog 14 #[.agg #[.int .i64 k, .int .i64 l, .int .i64 v, .int .i64 b], .agg #[.int .i64 a, .int .i64 n, .slice sa sn sc, .slice ha hn hc]] w fun e w' => e = .returned (.bool false) ∧ Below w.heap.size w w' := by
  have CK := Lib.hid (fun u => rCheck_yes k l v b u h)
  have tk : (k == 2) = true := by simp [hk]
  clear hk
  have TK := Lib.hid (fun u => rTime_no a u ha1)
  clear h ha1
  have HP := Lib.hid (PC.made w k l v b a n (.slice sa sn sc) (.slice ha hn hc) 23 27)
  go_enter Try.func14, Try.ntmps14
  go_wp2_with fail
  refine (CK.out _).mono ?_; rintro e w1 ⟨rfl, hb⟩
  have hp := HP.out.step hb
  have z0 := hp.p0
  have z4 := hp.c0
  have z1 := hp.p1
  have z5 := hp.c1
  have z2 := hp.p2
  have z6 := hp.c2
  have z3 := hp.p3
  have z7 := hp.c3
  have HQ := Lib.hid hp
  clear hp hb HP CK
  go_wp2_with fail
  refine (TK.out _).mono ?_; rintro e w' ⟨rfl, rfl⟩
  go_wp2_with fail
  go_ret
  exact ⟨rfl, HQ.out.be⟩

set_option maxRecDepth 100000 in
set_option maxHeartbeats 2000000 in
theorem rMay_n (k l v b a n : Int) (sa ha : Option Addr) (sn sc hn hc : Nat) (w : World) (h : MayP k l v b) (hk : k = 2) (ha1 : 0 ≤ a) (ha2 : a ≤ 1099511627776) (hn1 : n < 0) :
    Calls Try.prog 14 #[.agg #[.int .i64 k, .int .i64 l, .int .i64 v, .int .i64 b], .agg #[.int .i64 a, .int .i64 n, .slice sa sn sc, .slice ha hn hc]] w fun e w' => e = .returned (.bool false) ∧ Below w.heap.size w w' := by
  have CK := Lib.hid (fun u => rCheck_yes k l v b u h)
  have tk : (k == 2) = true := by simp [hk]
  clear hk
  have TK := Lib.hid (fun u => rTime_yes a u ha1 ha2)
  have d1 : decide (0 ≤ n) = false := by simp; omega
  clear h
  have HP := Lib.hid (PC.made w k l v b a n (.slice sa sn sc) (.slice ha hn hc) 23 27)
  go_enter Try.func14, Try.ntmps14
  go_wp2_with fail
  refine (CK.out _).mono ?_; rintro e w1 ⟨rfl, hb⟩
  have hp := HP.out.step hb
  have z0 := hp.p0
  have z4 := hp.c0
  have z1 := hp.p1
  have z5 := hp.c1
  have z2 := hp.p2
  have z6 := hp.c2
  have z3 := hp.p3
  have z7 := hp.c3
  have HQ := Lib.hid hp
  clear hp hb HP CK
  go_wp2_with fail
  refine (TK.out _).mono ?_; rintro e w' ⟨rfl, rfl⟩
  go_wp2_with fail
  go_ret
  exact ⟨rfl, HQ.out.be⟩

set_option maxRecDepth 100000 in
set_option maxHeartbeats 2000000 in
theorem rMay_m (k l v b a n : Int) (sa ha : Option Addr) (sn sc hn hc : Nat) (w : World) (h : MayP k l v b) (hk : k = 2) (ha1 : 0 ≤ a) (ha2 : a ≤ 1099511627776) (hn1 : 0 ≤ n) (hn2 : l < n) :
    Calls Try.prog 14 #[.agg #[.int .i64 k, .int .i64 l, .int .i64 v, .int .i64 b], .agg #[.int .i64 a, .int .i64 n, .slice sa sn sc, .slice ha hn hc]] w fun e w' => e = .returned (.bool false) ∧ Below w.heap.size w w' := by
  have CK := Lib.hid (fun u => rCheck_yes k l v b u h)
  have tk : (k == 2) = true := by simp [hk]
  clear hk
  have TK := Lib.hid (fun u => rTime_yes a u ha1 ha2)
  have d1 : decide (n ≤ l) = false := by simp; omega
  clear h
  have HP := Lib.hid (PC.made w k l v b a n (.slice sa sn sc) (.slice ha hn hc) 23 27)
  go_enter Try.func14, Try.ntmps14
  go_wp2_with fail
  refine (CK.out _).mono ?_; rintro e w1 ⟨rfl, hb⟩
  have hp := HP.out.step hb
  have z0 := hp.p0
  have z4 := hp.c0
  have z1 := hp.p1
  have z5 := hp.c1
  have z2 := hp.p2
  have z6 := hp.c2
  have z3 := hp.p3
  have z7 := hp.c3
  have HQ := Lib.hid hp
  clear hp hb HP CK
  go_wp2_with fail
  refine (TK.out _).mono ?_; rintro e w' ⟨rfl, rfl⟩
  go_wp2_with fail
  go_ret
  exact ⟨rfl, HQ.out.be⟩

set_option maxRecDepth 100000 in
set_option maxHeartbeats 2000000 in
theorem rMay_s (k l v b a n : Int) (sa ha : Option Addr) (sn sc hn hc : Nat) (w : World) (h : MayP k l v b) (hk : k = 2) (ha1 : 0 ≤ a) (ha2 : a ≤ 1099511627776) (hn1 : 0 ≤ n) (hn2 : n ≤ l) (hs : sn ≠ 0) :
    Calls Try.prog 14 #[.agg #[.int .i64 k, .int .i64 l, .int .i64 v, .int .i64 b], .agg #[.int .i64 a, .int .i64 n, .slice sa sn sc, .slice ha hn hc]] w fun e w' => e = .returned (.bool false) ∧ Below w.heap.size w w' := by
  have CK := Lib.hid (fun u => rCheck_yes k l v b u h)
  have tk : (k == 2) = true := by simp [hk]
  clear hk
  have TK := Lib.hid (fun u => rTime_yes a u ha1 ha2)
  have d1 : ((sn : Int) == 0) = false := by simp; omega
  clear h hs
  have HP := Lib.hid (PC.made w k l v b a n (.slice sa sn sc) (.slice ha hn hc) 23 27)
  go_enter Try.func14, Try.ntmps14
  go_wp2_with fail
  refine (CK.out _).mono ?_; rintro e w1 ⟨rfl, hb⟩
  have hp := HP.out.step hb
  have z0 := hp.p0
  have z4 := hp.c0
  have z1 := hp.p1
  have z5 := hp.c1
  have z2 := hp.p2
  have z6 := hp.c2
  have z3 := hp.p3
  have z7 := hp.c3
  have HQ := Lib.hid hp
  clear hp hb HP CK
  go_wp2_with fail
  refine (TK.out _).mono ?_; rintro e w' ⟨rfl, rfl⟩
  go_wp2_with fail
  go_ret
  exact ⟨rfl, HQ.out.be⟩

set_option maxRecDepth 100000 in
set_option maxHeartbeats 2000000 in
theorem rMay_h (k l v b a n : Int) (sa ha : Option Addr) (sc hn hc : Nat) (w : World) (h : MayP k l v b) (hk : k = 2) (ha1 : 0 ≤ a) (ha2 : a ≤ 1099511627776) (hn1 : 0 ≤ n) (hn2 : n ≤ l) (hh : hn ≠ 0) :
    Calls Try.prog 14 #[.agg #[.int .i64 k, .int .i64 l, .int .i64 v, .int .i64 b], .agg #[.int .i64 a, .int .i64 n, .slice sa 0 sc, .slice ha hn hc]] w fun e w' => e = .returned (.bool false) ∧ Below w.heap.size w w' := by
  have CK := Lib.hid (fun u => rCheck_yes k l v b u h)
  have tk : (k == 2) = true := by simp [hk]
  clear hk
  have TK := Lib.hid (fun u => rTime_yes a u ha1 ha2)
  have d1 : ((hn : Int) == 0) = false := by simp; omega
  clear h hh
  have HP := Lib.hid (PC.made w k l v b a n (.slice sa 0 sc) (.slice ha hn hc) 23 27)
  go_enter Try.func14, Try.ntmps14
  go_wp2_with fail
  refine (CK.out _).mono ?_; rintro e w1 ⟨rfl, hb⟩
  have hp := HP.out.step hb
  have z0 := hp.p0
  have z4 := hp.c0
  have z1 := hp.p1
  have z5 := hp.c1
  have z2 := hp.p2
  have z6 := hp.c2
  have z3 := hp.p3
  have z7 := hp.c3
  have HQ := Lib.hid hp
  clear hp hb HP CK
  go_wp2_with fail
  refine (TK.out _).mono ?_; rintro e w' ⟨rfl, rfl⟩
  go_wp2_with fail
  go_ret
  exact ⟨rfl, HQ.out.be⟩

set_option maxRecDepth 100000 in
set_option maxHeartbeats 2000000 in
theorem rMay_yes' (k l v b a n : Int) (sa ha : Option Addr) (sc hc : Nat) (w : World) (h : MayP k l v b) (hk : k = 2) (ha1 : 0 ≤ a) (ha2 : a ≤ 1099511627776) (hn1 : 0 ≤ n) (hn2 : n ≤ l) :
    Calls Try.prog 14 #[.agg #[.int .i64 k, .int .i64 l, .int .i64 v, .int .i64 b], .agg #[.int .i64 a, .int .i64 n, .slice sa 0 sc, .slice ha 0 hc]] w fun e w' => e = .returned (.bool true) ∧ Below w.heap.size w w' := by
  have CK := Lib.hid (fun u => rCheck_yes k l v b u h)
  have tk : (k == 2) = true := by simp [hk]
  clear hk
  have TK := Lib.hid (fun u => rTime_yes a u ha1 ha2)
  clear h
  have HP := Lib.hid (PC.made w k l v b a n (.slice sa 0 sc) (.slice ha 0 hc) 23 27)
  go_enter Try.func14, Try.ntmps14
  go_wp2_with fail
  refine (CK.out _).mono ?_; rintro e w1 ⟨rfl, hb⟩
  have hp := HP.out.step hb
  have z0 := hp.p0
  have z4 := hp.c0
  have z1 := hp.p1
  have z5 := hp.c1
  have z2 := hp.p2
  have z6 := hp.c2
  have z3 := hp.p3
  have z7 := hp.c3
  have HQ := Lib.hid hp
  clear hp hb HP CK
  go_wp2_with fail
  refine (TK.out _).mono ?_; rintro e w' ⟨rfl, rfl⟩
  go_wp2_with fail
  go_ret
  exact ⟨rfl, HQ.out.be⟩

theorem rMay_yes (k l v b a n : Int) (sa ha : Option Addr) (sn sc hn hc : Nat) (w : World) (h : MayG k l v b a n sn hn) : Calls Try.prog 14 #[.agg #[.int .i64 k, .int .i64 l, .int .i64 v, .int .i64 b], .agg #[.int .i64 a, .int .i64 n, .slice sa sn sc, .slice ha hn hc]] w fun e w' => e = .returned (.bool true) ∧ Below w.heap.size w w' := by
  obtain ⟨h1, h2, h3, h4, h5, rfl, rfl⟩ := h
  exact rMay_yes' k l v b a n sa ha sc hc w h1 h2 h3.1 h3.2 h4 h5
theorem rMay_no (k l v b a n : Int) (sa ha : Option Addr) (sn sc hn hc : Nat) (w : World) (h : ¬ MayG k l v b a n sn hn) : Calls Try.prog 14 #[.agg #[.int .i64 k, .int .i64 l, .int .i64 v, .int .i64 b], .agg #[.int .i64 a, .int .i64 n, .slice sa sn sc, .slice ha hn hc]] w fun e w' => e = .returned (.bool false) ∧ Below w.heap.size w w' := by
  by_cases h1 : MayP k l v b
  · by_cases h2 : k = 2
    · by_cases h3 : 0 ≤ a ∧ a ≤ 1099511627776
      · by_cases h4 : 0 ≤ n
        · by_cases h5 : n ≤ l
          · by_cases h6 : sn = 0
            · subst h6
              exact rMay_h k l v b a n sa ha sc hn hc w h1 h2 h3.1 h3.2 h4 h5 (fun e => h ⟨h1, h2, h3, h4, h5, rfl, e⟩)
            · exact rMay_s k l v b a n sa ha sn sc hn hc w h1 h2 h3.1 h3.2 h4 h5 h6
          · exact rMay_m k l v b a n sa ha sn sc hn hc w h1 h2 h3.1 h3.2 h4 (by omega)
        · exact rMay_n k l v b a n sa ha sn sc hn hc w h1 h2 h3.1 h3.2 (by omega)
      · exact rMay_a k l v b a n sa ha sn sc hn hc w h1 h2 h3
    · exact rMay_k k l v b a n sa ha sn sc hn hc w h1 h2
  · exact rMay_p k l v b a n sa ha sn sc hn hc w h1
end Go.Proofs.Ytdmephlappmmdab
