/- The contracts of the document's own May, and of Level and Ends. WRITTEN BY gen_gc2.py. -/
import Derived.Test.YtdmephlappmmdaaGc1
-- prune
namespace Go.Proofs.Ytdmephlappmmdaa
open Go.ChangeShapes Go.WideShapes Go.ChangeAt Go.RowKit
set_option linter.unusedVariables false

set_option maxRecDepth 100000 in
set_option maxHeartbeats 2000000 in
theorem rMay_p (k l v b a n : Int) (sa ha : Option Addr) (sn sc hn hc : Nat) (w : World) (h : ¬ MayP k l v b) :
    Calls Try.prog 14 #[.agg #[.int .i64 k, .int .i64 l, .int .i64 v, .int .i64 b], .agg #[.int .i64 a, .int .i64 n, .slice sa sn sc, .slice ha hn hc]] w fun e w' => e = .returned (.bool false) ∧ Below w.heap.size w w' := by
  have CK := Lib.hid (fun u => rCheck_no k l v b u h)
  clear h
  have HP := Lib.hid (PC.made w k l v b a n (.slice sa sn sc) (.slice ha hn hc) 23 27)
  go_enter Try.func14, Try.ntmps14
  go_wp2_with fail
  refine (CK.out _).mono ?_; rintro e w1 ⟨rfl, hb⟩
  have hp := HP.out.step hb
  have z0 := hp.p0
  have z4 := hp.c0
  have z1 := hp.p1
  have z5 := hp.c1
  have z2 := hp.p2
  have z6 := hp.c2
  have z3 := hp.p3
  have z7 := hp.c3
  have HQ := Lib.hid hp
  clear hp hb HP CK
  go_wp2_with fail
  go_ret
  exact ⟨rfl, HQ.out.be⟩

set_option maxRecDepth 100000 in
set_option maxHeartbeats 2000000 in
theorem rMay_k (k l v b a n : Int) (sa ha : Option Addr) (sn sc hn hc : Nat) (w : World) (h : MayP k l v b) (hk : ¬ k = 1) :
    Calls Try.prog 14 #[.agg #[.int .i64 k, .int .i64 l, .int .i64 v, .int .i64 b], .agg #[.int .i64 a, .int .i64 n, .slice sa sn sc, .slice ha hn hc]] w fun e w' => e = .returned (.bool false) ∧ Below w.heap.size w w' := by
  have CK := Lib.hid (fun u => rCheck_yes k l v b u h)
  have tk : (k == 1) = false := by simp [hk]
  clear h hk
  have HP := Lib.hid (PC.made w k l v b a n (.slice sa sn sc) (.slice ha hn hc) 23 27)
  go_enter Try.func14, Try.ntmps14
  go_wp2_with fail
  refine (CK.out _).mono ?_; rintro e w1 ⟨rfl, hb⟩
  have hp := HP.out.step hb
  have z0 := hp.p0
  have z4 := hp.c0
  have z1 := hp.p1
  have z5 := hp.c1
  have z2 := hp.p2
  have z6 := hp.c2
  have z3 := hp.p3
  have z7 := hp.c3
  have HQ := Lib.hid hp
  clear hp hb HP CK
  go_wp2_with fail
  go_ret
  exact ⟨rfl, HQ.out.be⟩

set_option maxRecDepth 100000 in
set_option maxHeartbeats 2000000 in
theorem rMay_a (k l v b a n : Int) (sa ha : Option Addr) (sn sc hn hc : Nat) (w : World) (h : MayP k l v b) (hk : k = 1) (ha1 : ¬ (0 ≤ a ∧ a ≤ 1099511627776)) :
    Calls Try.prog 14 #[.agg #[.int .i64 k, .int .i64 l, .int .i64 v, .int .i64 b], .agg #[.int .i64 a, .int .i64 n, .slice sa sn sc, .slice ha hn hc]] w fun e w' => e = .returned (.bool false) ∧ Below w.heap.size w w' := by
  have CK := Lib.hid (fun u => rCheck_yes k l v b u h)
  have tk : (k == 1) = true := by simp [hk]
  clear hk
  have TK := Lib.hid (fun u => rTime_no a u ha1)
  clear h ha1
  have HP := Lib.hid (PC.made w k l v b a n (.slice sa sn sc) (.slice ha hn hc) 23 27)
  go_enter Try.func14, Try.ntmps14
  go_wp2_with fail
  refine (CK.out _).mono ?_; rintro e w1 ⟨rfl, hb⟩
  have hp := HP.out.step hb
  have z0 := hp.p0
  have z4 := hp.c0
  have z1 := hp.p1
  have z5 := hp.c1
  have z2 := hp.p2
  have z6 := hp.c2
  have z3 := hp.p3
  have z7 := hp.c3
  have HQ := Lib.hid hp
  clear hp hb HP CK
  go_wp2_with fail
  refine (TK.out _).mono ?_; rintro e w' ⟨rfl, rfl⟩
  go_wp2_with fail
  go_ret
  exact ⟨rfl, HQ.out.be⟩

set_option maxRecDepth 100000 in
set_option maxHeartbeats 2000000 in
theorem rMay_n (k l v b a n : Int) (sa ha : Option Addr) (sn sc hn hc : Nat) (w : World) (h : MayP k l v b) (hk : k = 1) (ha1 : 0 ≤ a) (ha2 : a ≤ 1099511627776) (hn1 : n < 0) :
    Calls Try.prog 14 #[.agg #[.int .i64 k, .int .i64 l, .int .i64 v, .int .i64 b], .agg #[.int .i64 a, .int .i64 n, .slice sa sn sc, .slice ha hn hc]] w fun e w' => e = .returned (.bool false) ∧ Below w.heap.size w w' := by
  have CK := Lib.hid (fun u => rCheck_yes k l v b u h)
  have tk : (k == 1) = true := by simp [hk]
  clear hk
  have TK := Lib.hid (fun u => rTime_yes a u ha1 ha2)
  have d1 : decide (0 ≤ n) = false := by simp; omega
  clear h
  have HP := Lib.hid (PC.made w k l v b a n (.slice sa sn sc) (.slice ha hn hc) 23 27)
  go_enter Try.func14, Try.ntmps14
  go_wp2_with fail
  refine (CK.out _).mono ?_; rintro e w1 ⟨rfl, hb⟩
  have hp := HP.out.step hb
  have z0 := hp.p0
  have z4 := hp.c0
  have z1 := hp.p1
  have z5 := hp.c1
  have z2 := hp.p2
  have z6 := hp.c2
  have z3 := hp.p3
  have z7 := hp.c3
  have HQ := Lib.hid hp
  clear hp hb HP CK
  go_wp2_with fail
  refine (TK.out _).mono ?_; rintro e w' ⟨rfl, rfl⟩
  go_wp2_with fail
  go_ret
  exact ⟨rfl, HQ.out.be⟩

set_option maxRecDepth 100000 in
set_option maxHeartbeats 2000000 in
theorem rMay_m (k l v b a n : Int) (sa ha : Option Addr) (sn sc hn hc : Nat) (w : World) (h : MayP k l v b) (hk : k = 1) (ha1 : 0 ≤ a) (ha2 : a ≤ 1099511627776) (hn1 : 0 ≤ n) (hn2 : l * v < n) :
    Calls Try.prog 14 #[.agg #[.int .i64 k, .int .i64 l, .int .i64 v, .int .i64 b], .agg #[.int .i64 a, .int .i64 n, .slice sa sn sc, .slice ha hn hc]] w fun e w' => e = .returned (.bool false) ∧ Below w.heap.size w w' := by
  obtain ⟨l1, l2, v1, v2⟩ := h.lv
  obtain ⟨m1, m2⟩ := h.M
  have CK := Lib.hid (fun u => rCheck_yes k l v b u h)
  have tk : (k == 1) = true := by simp [hk]
  clear hk
  have TK := Lib.hid (fun u => rTime_yes a u ha1 ha2)
  have e1 : IntKind.i64.wrap (l * v) = l * v := wrap_i (by omega) (by omega)
  obtain ⟨M, hM⟩ : ∃ M, l * v = M := ⟨_, rfl⟩
  rw [hM] at m1 m2 hn2
  have e2 : IntKind.i64.wrap (l * v) = M := by rw [e1, hM]
  clear e1 hM
  have d1 : decide (n ≤ M) = false := by simp; omega
  clear h
  have HP := Lib.hid (PC.made w k l v b a n (.slice sa sn sc) (.slice ha hn hc) 23 27)
  go_enter Try.func14, Try.ntmps14
  go_wp2_with fail
  refine (CK.out _).mono ?_; rintro e w1 ⟨rfl, hb⟩
  have hp := HP.out.step hb
  have z0 := hp.p0
  have z4 := hp.c0
  have z1 := hp.p1
  have z5 := hp.c1
  have z2 := hp.p2
  have z6 := hp.c2
  have z3 := hp.p3
  have z7 := hp.c3
  have HQ := Lib.hid hp
  clear hp hb HP CK
  go_wp2_with fail
  refine (TK.out _).mono ?_; rintro e w' ⟨rfl, rfl⟩
  go_wp2_with fail
  go_ret
  exact ⟨rfl, HQ.out.be⟩

set_option maxRecDepth 100000 in
set_option maxHeartbeats 2000000 in
theorem rMay_s (k l v b a n : Int) (sa ha : Option Addr) (sn sc hn hc : Nat) (w : World) (h : MayP k l v b) (hk : k = 1) (ha1 : 0 ≤ a) (ha2 : a ≤ 1099511627776) (hn1 : 0 ≤ n) (hn2 : n ≤ l * v) (hs : sn ≠ 0) :
    Calls Try.prog 14 #[.agg #[.int .i64 k, .int .i64 l, .int .i64 v, .int .i64 b], .agg #[.int .i64 a, .int .i64 n, .slice sa sn sc, .slice ha hn hc]] w fun e w' => e = .returned (.bool false) ∧ Below w.heap.size w w' := by
  obtain ⟨l1, l2, v1, v2⟩ := h.lv
  obtain ⟨m1, m2⟩ := h.M
  have CK := Lib.hid (fun u => rCheck_yes k l v b u h)
  have tk : (k == 1) = true := by simp [hk]
  clear hk
  have TK := Lib.hid (fun u => rTime_yes a u ha1 ha2)
  have e1 : IntKind.i64.wrap (l * v) = l * v := wrap_i (by omega) (by omega)
  obtain ⟨M, hM⟩ : ∃ M, l * v = M := ⟨_, rfl⟩
  rw [hM] at m1 m2 hn2
  have e2 : IntKind.i64.wrap (l * v) = M := by rw [e1, hM]
  clear e1 hM
  have d1 : ((sn : Int) == 0) = false := by simp; omega
  clear h hs
  have HP := Lib.hid (PC.made w k l v b a n (.slice sa sn sc) (.slice ha hn hc) 23 27)
  go_enter Try.func14, Try.ntmps14
  go_wp2_with fail
  refine (CK.out _).mono ?_; rintro e w1 ⟨rfl, hb⟩
  have hp := HP.out.step hb
  have z0 := hp.p0
  have z4 := hp.c0
  have z1 := hp.p1
  have z5 := hp.c1
  have z2 := hp.p2
  have z6 := hp.c2
  have z3 := hp.p3
  have z7 := hp.c3
  have HQ := Lib.hid hp
  clear hp hb HP CK
  go_wp2_with fail
  refine (TK.out _).mono ?_; rintro e w' ⟨rfl, rfl⟩
  go_wp2_with fail
  go_ret
  exact ⟨rfl, HQ.out.be⟩

set_option maxRecDepth 100000 in
set_option maxHeartbeats 2000000 in
theorem rMay_h (k l v b a n : Int) (sa ha : Option Addr) (sc hn hc : Nat) (w : World) (h : MayP k l v b) (hk : k = 1) (ha1 : 0 ≤ a) (ha2 : a ≤ 1099511627776) (hn1 : 0 ≤ n) (hn2 : n ≤ l * v) (hh : hn ≠ 0) :
    Calls Try.prog 14 #[.agg #[.int .i64 k, .int .i64 l, .int .i64 v, .int .i64 b], .agg #[.int .i64 a, .int .i64 n, .slice sa 0 sc, .slice ha hn hc]] w fun e w' => e = .returned (.bool false) ∧ Below w.heap.size w w' := by
  obtain ⟨l1, l2, v1, v2⟩ := h.lv
  obtain ⟨m1, m2⟩ := h.M
  have CK := Lib.hid (fun u => rCheck_yes k l v b u h)
  have tk : (k == 1) = true := by simp [hk]
  clear hk
  have TK := Lib.hid (fun u => rTime_yes a u ha1 ha2)
  have e1 : IntKind.i64.wrap (l * v) = l * v := wrap_i (by omega) (by omega)
  obtain ⟨M, hM⟩ : ∃ M, l * v = M := ⟨_, rfl⟩
  rw [hM] at m1 m2 hn2
  have e2 : IntKind.i64.wrap (l * v) = M := by rw [e1, hM]
  clear e1 hM
  have d1 : ((hn : Int) == 0) = false := by simp; omega
  clear h hh
  have HP := Lib.hid (PC.made w k l v b a n (.slice sa 0 sc) (.slice ha hn hc) 23 27)
  go_enter Try.func14, Try.ntmps14
  go_wp2_with fail
  refine (CK.out _).mono ?_; rintro e w1 ⟨rfl, hb⟩
  have hp := HP.out.step hb
  have z0 := hp.p0
  have z4 := hp.c0
  have z1 := hp.p1
  have z5 := hp.c1
  have z2 := hp.p2
  have z6 := hp.c2
  have z3 := hp.p3
  have z7 := hp.c3
  have HQ := Lib.hid hp
  clear hp hb HP CK
  go_wp2_with fail
  refine (TK.out _).mono ?_; rintro e w' ⟨rfl, rfl⟩
  go_wp2_with fail
  go_ret
  exact ⟨rfl, HQ.out.be⟩

set_option maxRecDepth 100000 in
set_option maxHeartbeats 2000000 in
theorem rMay_yes' (k l v b a n : Int) (sa ha : Option Addr) (sc hc : Nat) (w : World) (h : MayP k l v b) (hk : k = 1) (ha1 : 0 ≤ a) (ha2 : a ≤ 1099511627776) (hn1 : 0 ≤ n) (hn2 : n ≤ l * v) :
    Calls Try.prog 14 #[.agg #[.int .i64 k, .int .i64 l, .int .i64 v, .int .i64 b], .agg #[.int .i64 a, .int .i64 n, .slice sa 0 sc, .slice ha 0 hc]] w fun e w' => e = .returned (.bool true) ∧ Below w.heap.size w w' := by
  obtain ⟨l1, l2, v1, v2⟩ := h.lv
  obtain ⟨m1, m2⟩ := h.M
  have CK := Lib.hid (fun u => rCheck_yes k l v b u h)
  have tk : (k == 1) = true := by simp [hk]
  clear hk
  have TK := Lib.hid (fun u => rTime_yes a u ha1 ha2)
  have e1 : IntKind.i64.wrap (l * v) = l * v := wrap_i (by omega) (by omega)
  obtain ⟨M, hM⟩ : ∃ M, l * v = M := ⟨_, rfl⟩
  rw [hM] at m1 m2 hn2
  have e2 : IntKind.i64.wrap (l * v) = M := by rw [e1, hM]
  clear e1 hM
  clear h
  have HP := Lib.hid (PC.made w k l v b a n (.slice sa 0 sc) (.slice ha 0 hc) 23 27)
  go_enter Try.func14, Try.ntmps14
  go_wp2_with fail
  refine (CK.out _).mono ?_; rintro e w1 ⟨rfl, hb⟩
  have hp := HP.out.step hb
  have z0 := hp.p0
  have z4 := hp.c0
  have z1 := hp.p1
  have z5 := hp.c1
  have z2 := hp.p2
  have z6 := hp.c2
  have z3 := hp.p3
  have z7 := hp.c3
  have HQ := Lib.hid hp
  clear hp hb HP CK
  go_wp2_with fail
  refine (TK.out _).mono ?_; rintro e w' ⟨rfl, rfl⟩
  go_wp2_with fail
  go_ret
  exact ⟨rfl, HQ.out.be⟩

theorem rMay_yes (k l v b a n : Int) (sa ha : Option Addr) (sn sc hn hc : Nat) (w : World) (h : MayG k l v b a n sn hn) : Calls Try.prog 14 #[.agg #[.int .i64 k, .int .i64 l, .int .i64 v, .int .i64 b], .agg #[.int .i64 a, .int .i64 n, .slice sa sn sc, .slice ha hn hc]] w fun e w' => e = .returned (.bool true) ∧ Below w.heap.size w w' := by
  obtain ⟨h1, h2, h3, h4, h5, rfl, rfl⟩ := h
  exact rMay_yes' k l v b a n sa ha sc hc w h1 h2 h3.1 h3.2 h4 h5
theorem rMay_no (k l v b a n : Int) (sa ha : Option Addr) (sn sc hn hc : Nat) (w : World) (h : ¬ MayG k l v b a n sn hn) : Calls Try.prog 14 #[.agg #[.int .i64 k, .int .i64 l, .int .i64 v, .int .i64 b], .agg #[.int .i64 a, .int .i64 n, .slice sa sn sc, .slice ha hn hc]] w fun e w' => e = .returned (.bool false) ∧ Below w.heap.size w w' := by
  by_cases h1 : MayP k l v b
  · by_cases h2 : k = 1
    · by_cases h3 : 0 ≤ a ∧ a ≤ 1099511627776
      · by_cases h4 : 0 ≤ n
        · by_cases h5 : n ≤ l * v
          · by_cases h6 : sn = 0
            · subst h6
              exact rMay_h k l v b a n sa ha sc hn hc w h1 h2 h3.1 h3.2 h4 h5 (fun e => h ⟨h1, h2, h3, h4, h5, rfl, e⟩)
            · exact rMay_s k l v b a n sa ha sn sc hn hc w h1 h2 h3.1 h3.2 h4 h5 h6
          · exact rMay_m k l v b a n sa ha sn sc hn hc w h1 h2 h3.1 h3.2 h4 (by omega)
        · exact rMay_n k l v b a n sa ha sn sc hn hc w h1 h2 h3.1 h3.2 (by omega)
      · exact rMay_a k l v b a n sa ha sn sc hn hc w h1 h2 h3
    · exact rMay_k k l v b a n sa ha sn sc hn hc w h1 h2
  · exact rMay_p k l v b a n sa ha sn sc hn hc w h1

/-- The time at which an ask is done. -/
def tmax (t a : Int) : Int := if t ≤ a then a else t
theorem levG_bd {l a n t : Int} (h0 : 0 ≤ n) (h1 : a ≤ t) (h2 : 0 ≤ l) : 0 ≤ levG l a n t ∧ levG l a n t ≤ n :=
  subS_bd h0 (Int.mul_nonneg (by omega) h2)
theorem levG_hi (l a n t : Int) (h : a < t) : levG l a n (tmax t a) = subS n ((t - a) * l) := by
  have q : tmax t a = t := if_neg (by omega)
  rw [q]; rfl
theorem levG_at (l a n : Int) (h : 0 ≤ n) : levG l a n a = n := by unfold levG subS; simp; omega

set_option maxRecDepth 100000 in
theorem Level_no (k l v b a n t : Int) (sa ha : Option Addr) (sn sc hn hc : Nat) (w : World) (h : ¬ MayG k l v b a n sn hn) :
    Calls Try.prog 15 #[.agg #[.int .i64 k, .int .i64 l, .int .i64 v, .int .i64 b], .agg #[.int .i64 a, .int .i64 n, .slice sa sn sc, .slice ha hn hc], .int .i64 t] w fun e w' => e = .returned (.int .i64 0) ∧ Below w.heap.size w w' := by
  have MK := Lib.hid (fun u => May_no k l v b a n sa ha sn sc hn hc u h)
  have HP := Lib.hid (PC.made w k l v b a n (.slice sa sn sc) (.slice ha hn hc) 23 27)
  clear h
  go_enter Try.func15, Try.ntmps15
  go_wp2_with fail
  refine (MK.out _).mono ?_; rintro e w1 ⟨rfl, hb⟩
  have HQ := Lib.hid (HP.out.step hb)
  clear hb
  go_wp2_with fail
  go_ret
  exact ⟨rfl, HQ.out.be⟩

set_option maxRecDepth 100000 in
theorem rLevel_no (k l v b a n t : Int) (sa ha : Option Addr) (sn sc hn hc : Nat) (w : World) (h : ¬ MayG k l v b a n sn hn) :
    Calls Try.prog 16 #[.agg #[.int .i64 k, .int .i64 l, .int .i64 v, .int .i64 b], .agg #[.int .i64 a, .int .i64 n, .slice sa sn sc, .slice ha hn hc], .int .i64 t] w fun e w' => e = .returned (.int .i64 0) ∧ Below w.heap.size w w' := by
  have MK := Lib.hid (fun u => rMay_no k l v b a n sa ha sn sc hn hc u h)
  have HP := Lib.hid (PC.made w k l v b a n (.slice sa sn sc) (.slice ha hn hc) 23 27)
  clear h
  go_enter Try.func16, Try.ntmps16
  go_wp2_with fail
  refine (MK.out _).mono ?_; rintro e w1 ⟨rfl, hb⟩
  have HQ := Lib.hid (HP.out.step hb)
  clear hb
  go_wp2_with fail
  go_ret
  exact ⟨rfl, HQ.out.be⟩

set_option maxRecDepth 100000 in
theorem Ends_no (k l v b a n : Int) (sa ha : Option Addr) (sn sc hn hc : Nat) (w : World) (h : ¬ MayG k l v b a n sn hn) :
    Calls Try.prog 17 #[.agg #[.int .i64 k, .int .i64 l, .int .i64 v, .int .i64 b], .agg #[.int .i64 a, .int .i64 n, .slice sa sn sc, .slice ha hn hc]] w fun e w' => e = .returned (.int .i64 0) ∧ Below w.heap.size w w' := by
  have MK := Lib.hid (fun u => May_no k l v b a n sa ha sn sc hn hc u h)
  have HP := Lib.hid (PC.made w k l v b a n (.slice sa sn sc) (.slice ha hn hc) 23 27)
  clear h
  go_enter Try.func17, Try.ntmps17
  go_wp2_with fail
  refine (MK.out _).mono ?_; rintro e w1 ⟨rfl, hb⟩
  have HQ := Lib.hid (HP.out.step hb)
  clear hb
  go_wp2_with fail
  go_ret
  exact ⟨rfl, HQ.out.be⟩

set_option maxRecDepth 100000 in
theorem rEnds_no (k l v b a n : Int) (sa ha : Option Addr) (sn sc hn hc : Nat) (w : World) (h : ¬ MayG k l v b a n sn hn) :
    Calls Try.prog 18 #[.agg #[.int .i64 k, .int .i64 l, .int .i64 v, .int .i64 b], .agg #[.int .i64 a, .int .i64 n, .slice sa sn sc, .slice ha hn hc]] w fun e w' => e = .returned (.int .i64 0) ∧ Below w.heap.size w w' := by
  have MK := Lib.hid (fun u => rMay_no k l v b a n sa ha sn sc hn hc u h)
  have HP := Lib.hid (PC.made w k l v b a n (.slice sa sn sc) (.slice ha hn hc) 23 27)
  clear h
  go_enter Try.func18, Try.ntmps18
  go_wp2_with fail
  refine (MK.out _).mono ?_; rintro e w1 ⟨rfl, hb⟩
  have HQ := Lib.hid (HP.out.step hb)
  clear hb
  go_wp2_with fail
  go_ret
  exact ⟨rfl, HQ.out.be⟩

set_option maxRecDepth 100000 in
theorem Level_t (k l v b a n t : Int) (sa ha : Option Addr) (sn sc hn hc : Nat) (w : World) (h : MayG k l v b a n sn hn) (ht : ¬ (0 ≤ t ∧ t ≤ 1099511627776)) :
    Calls Try.prog 15 #[.agg #[.int .i64 k, .int .i64 l, .int .i64 v, .int .i64 b], .agg #[.int .i64 a, .int .i64 n, .slice sa sn sc, .slice ha hn hc], .int .i64 t] w fun e w' => e = .returned (.int .i64 0) ∧ Below w.heap.size w w' := by
  have MK := Lib.hid (fun u => May_yes k l v b a n sa ha sn sc hn hc u h)
  have TK := Lib.hid (fun u => isTick_no t u ht)
  have HP := Lib.hid (PC.made w k l v b a n (.slice sa sn sc) (.slice ha hn hc) 23 27)
  obtain ⟨l1, l2, v1, v2⟩ := h.1.lv
  obtain ⟨m1, m2⟩ := h.1.M
  obtain ⟨hp, hk, ⟨ha1, ha2⟩, hn1, hn2, hs, hh⟩ := h
  clear hp hk hs hh
  go_enter Try.func15, Try.ntmps15
  go_wp2_with fail
  refine (MK.out _).mono ?_; rintro e w1 ⟨rfl, hb⟩
  have hp := HP.out.step hb
  have z0 := hp.p0
  have z4 := hp.c0
  have z1 := hp.p1
  have z5 := hp.c1
  have z2 := hp.p2
  have z6 := hp.c2
  have z3 := hp.p3
  have z7 := hp.c3
  have HQ := Lib.hid hp
  clear hp hb HP MK
  go_wp2_with fail
  refine (TK.out _).mono ?_; rintro e w' ⟨rfl, rfl⟩
  go_wp2_with fail
  go_ret
  exact ⟨rfl, HQ.out.be⟩

set_option maxRecDepth 100000 in
theorem rLevel_t (k l v b a n t : Int) (sa ha : Option Addr) (sn sc hn hc : Nat) (w : World) (h : MayG k l v b a n sn hn) (ht : ¬ (0 ≤ t ∧ t ≤ 1099511627776)) :
    Calls Try.prog 16 #[.agg #[.int .i64 k, .int .i64 l, .int .i64 v, .int .i64 b], .agg #[.int .i64 a, .int .i64 n, .slice sa sn sc, .slice ha hn hc], .int .i64 t] w fun e w' => e = .returned (.int .i64 0) ∧ Below w.heap.size w w' := by
  have MK := Lib.hid (fun u => rMay_yes k l v b a n sa ha sn sc hn hc u h)
  have TK := Lib.hid (fun u => rTime_no t u ht)
  have HP := Lib.hid (PC.made w k l v b a n (.slice sa sn sc) (.slice ha hn hc) 23 27)
  obtain ⟨l1, l2, v1, v2⟩ := h.1.lv
  obtain ⟨m1, m2⟩ := h.1.M
  obtain ⟨hp, hk, ⟨ha1, ha2⟩, hn1, hn2, hs, hh⟩ := h
  clear hp hk hs hh
  go_enter Try.func16, Try.ntmps16
  go_wp2_with fail
  refine (MK.out _).mono ?_; rintro e w1 ⟨rfl, hb⟩
  have hp := HP.out.step hb
  have z0 := hp.p0
  have z4 := hp.c0
  have z1 := hp.p1
  have z5 := hp.c1
  have z2 := hp.p2
  have z6 := hp.c2
  have z3 := hp.p3
  have z7 := hp.c3
  have HQ := Lib.hid hp
  clear hp hb HP MK
  go_wp2_with fail
  refine (TK.out _).mono ?_; rintro e w' ⟨rfl, rfl⟩
  go_wp2_with fail
  go_ret
  exact ⟨rfl, HQ.out.be⟩

set_option maxRecDepth 100000 in
theorem Level_lo (k l v b a n t : Int) (sa ha : Option Addr) (sn sc hn hc : Nat) (w : World) (h : MayG k l v b a n sn hn) (t1 : 0 ≤ t) (t2 : t ≤ 1099511627776) (hle : t < a) :
    Calls Try.prog 15 #[.agg #[.int .i64 k, .int .i64 l, .int .i64 v, .int .i64 b], .agg #[.int .i64 a, .int .i64 n, .slice sa sn sc, .slice ha hn hc], .int .i64 t] w fun e w' => e = .returned (.int .i64 (levG l a n (tmax t a))) ∧ Below w.heap.size w w' := by
  have MK := Lib.hid (fun u => May_yes k l v b a n sa ha sn sc hn hc u h)
  have TK := Lib.hid (fun u => isTick_yes t u t1 t2)
  have HP := Lib.hid (PC.made w k l v b a n (.slice sa sn sc) (.slice ha hn hc) 23 27)
  obtain ⟨l1, l2, v1, v2⟩ := h.1.lv
  obtain ⟨m1, m2⟩ := h.1.M
  obtain ⟨hp, hk, ⟨ha1, ha2⟩, hn1, hn2, hs, hh⟩ := h
  have tb : a ≤ tmax t a ∧ tmax t a ≤ 1099511627776 := by unfold tmax; split <;> omega
  have LV := Lib.hid (fun u => level_any k l v b a n (tmax t a) sa ha sn sc hn hc u ha1 tb.1 tb.2 hn1 (by omega) (by omega) l2)
  have lb := levG_bd (l := l) hn1 tb.1 (by omega)
  obtain ⟨lb1, lb2⟩ := lb
  obtain ⟨r, hr⟩ : ∃ r, levG l a n (tmax t a) = r := ⟨_, rfl⟩
  rw [hr] at LV lb1 lb2 ⊢
  have tm : tmax t a = a := by unfold tmax; split <;> omega
  rw [tm] at LV
  clear hr tm tb
  clear hp hk hs hh
  go_enter Try.func15, Try.ntmps15
  go_wp2_with fail
  refine (MK.out _).mono ?_; rintro e w1 ⟨rfl, hb⟩
  have hp := HP.out.step hb
  have z0 := hp.p0
  have z4 := hp.c0
  have z1 := hp.p1
  have z5 := hp.c1
  have z2 := hp.p2
  have z6 := hp.c2
  have z3 := hp.p3
  have z7 := hp.c3
  have HQ := Lib.hid hp
  clear hp hb HP MK
  go_wp2_with fail
  refine (TK.out _).mono ?_; rintro e w' ⟨rfl, rfl⟩
  go_wp2_with fail
  refine (LV.out _).mono ?_; rintro e w2 ⟨rfl, hb⟩
  have HR := Lib.hid (HQ.out.step hb)
  clear hb
  go_wp2_with fail
  go_ret
  exact ⟨rfl, HR.out.be⟩

set_option maxRecDepth 100000 in
theorem Level_hi (k l v b a n t : Int) (sa ha : Option Addr) (sn sc hn hc : Nat) (w : World) (h : MayG k l v b a n sn hn) (t1 : 0 ≤ t) (t2 : t ≤ 1099511627776) (hle : a ≤ t) :
    Calls Try.prog 15 #[.agg #[.int .i64 k, .int .i64 l, .int .i64 v, .int .i64 b], .agg #[.int .i64 a, .int .i64 n, .slice sa sn sc, .slice ha hn hc], .int .i64 t] w fun e w' => e = .returned (.int .i64 (levG l a n (tmax t a))) ∧ Below w.heap.size w w' := by
  have MK := Lib.hid (fun u => May_yes k l v b a n sa ha sn sc hn hc u h)
  have TK := Lib.hid (fun u => isTick_yes t u t1 t2)
  have HP := Lib.hid (PC.made w k l v b a n (.slice sa sn sc) (.slice ha hn hc) 23 27)
  obtain ⟨l1, l2, v1, v2⟩ := h.1.lv
  obtain ⟨m1, m2⟩ := h.1.M
  obtain ⟨hp, hk, ⟨ha1, ha2⟩, hn1, hn2, hs, hh⟩ := h
  have tb : a ≤ tmax t a ∧ tmax t a ≤ 1099511627776 := by unfold tmax; split <;> omega
  have LV := Lib.hid (fun u => level_any k l v b a n (tmax t a) sa ha sn sc hn hc u ha1 tb.1 tb.2 hn1 (by omega) (by omega) l2)
  have lb := levG_bd (l := l) hn1 tb.1 (by omega)
  obtain ⟨lb1, lb2⟩ := lb
  obtain ⟨r, hr⟩ : ∃ r, levG l a n (tmax t a) = r := ⟨_, rfl⟩
  rw [hr] at LV lb1 lb2 ⊢
  have tm : tmax t a = t := by unfold tmax; split <;> omega
  rw [tm] at LV
  clear hr tm tb
  clear hp hk hs hh
  go_enter Try.func15, Try.ntmps15
  go_wp2_with fail
  refine (MK.out _).mono ?_; rintro e w1 ⟨rfl, hb⟩
  have hp := HP.out.step hb
  have z0 := hp.p0
  have z4 := hp.c0
  have z1 := hp.p1
  have z5 := hp.c1
  have z2 := hp.p2
  have z6 := hp.c2
  have z3 := hp.p3
  have z7 := hp.c3
  have HQ := Lib.hid hp
  clear hp hb HP MK
  go_wp2_with fail
  refine (TK.out _).mono ?_; rintro e w' ⟨rfl, rfl⟩
  go_wp2_with fail
  refine (LV.out _).mono ?_; rintro e w2 ⟨rfl, hb⟩
  have HR := Lib.hid (HQ.out.step hb)
  clear hb
  go_wp2_with fail
  go_ret
  exact ⟨rfl, HR.out.be⟩

set_option maxRecDepth 100000 in
theorem rLevel_lo (k l v b a n t : Int) (sa ha : Option Addr) (sn sc hn hc : Nat) (w : World) (h : MayG k l v b a n sn hn) (t1 : 0 ≤ t) (t2 : t ≤ 1099511627776) (hle : t ≤ a) :
    Calls Try.prog 16 #[.agg #[.int .i64 k, .int .i64 l, .int .i64 v, .int .i64 b], .agg #[.int .i64 a, .int .i64 n, .slice sa sn sc, .slice ha hn hc], .int .i64 t] w fun e w' => e = .returned (.int .i64 (levG l a n (tmax t a))) ∧ Below w.heap.size w w' := by
  have MK := Lib.hid (fun u => rMay_yes k l v b a n sa ha sn sc hn hc u h)
  have TK := Lib.hid (fun u => rTime_yes t u t1 t2)
  have HP := Lib.hid (PC.made w k l v b a n (.slice sa sn sc) (.slice ha hn hc) 23 27)
  obtain ⟨l1, l2, v1, v2⟩ := h.1.lv
  obtain ⟨m1, m2⟩ := h.1.M
  obtain ⟨hp, hk, ⟨ha1, ha2⟩, hn1, hn2, hs, hh⟩ := h
  have E := Lib.hid (show n = levG l a n (tmax t a) by unfold tmax; rw [if_pos hle, levG_at _ _ _ hn1])
  clear hp hk hs hh
  go_enter Try.func16, Try.ntmps16
  go_wp2_with fail
  refine (MK.out _).mono ?_; rintro e w1 ⟨rfl, hb⟩
  have hp := HP.out.step hb
  have z0 := hp.p0
  have z4 := hp.c0
  have z1 := hp.p1
  have z5 := hp.c1
  have z2 := hp.p2
  have z6 := hp.c2
  have z3 := hp.p3
  have z7 := hp.c3
  have HQ := Lib.hid hp
  clear hp hb HP MK
  go_wp2_with fail
  refine (TK.out _).mono ?_; rintro e w' ⟨rfl, rfl⟩
  go_wp2_with fail
  go_ret
  exact ⟨ret_int E.out, HQ.out.be⟩

set_option maxRecDepth 100000 in
theorem rLevel_hi (k l v b a n t : Int) (sa ha : Option Addr) (sn sc hn hc : Nat) (w : World) (h : MayG k l v b a n sn hn) (t1 : 0 ≤ t) (t2 : t ≤ 1099511627776) (hle : a < t) :
    Calls Try.prog 16 #[.agg #[.int .i64 k, .int .i64 l, .int .i64 v, .int .i64 b], .agg #[.int .i64 a, .int .i64 n, .slice sa sn sc, .slice ha hn hc], .int .i64 t] w fun e w' => e = .returned (.int .i64 (levG l a n (tmax t a))) ∧ Below w.heap.size w w' := by
  have MK := Lib.hid (fun u => rMay_yes k l v b a n sa ha sn sc hn hc u h)
  have TK := Lib.hid (fun u => rTime_yes t u t1 t2)
  have HP := Lib.hid (PC.made w k l v b a n (.slice sa sn sc) (.slice ha hn hc) 23 27)
  obtain ⟨l1, l2, v1, v2⟩ := h.1.lv
  obtain ⟨m1, m2⟩ := h.1.M
  obtain ⟨hp, hk, ⟨ha1, ha2⟩, hn1, hn2, hs, hh⟩ := h
  obtain ⟨q1, q2⟩ := prod_bd (show 0 ≤ t - a by omega) (show t - a ≤ 1099511627776 by omega) (show 0 ≤ l by omega) l2
  have E := Lib.hid (levG_hi l a n t hle)
  have e1 : IntKind.i64.wrap (t - a) = t - a := wrap_i (by omega) (by omega)
  have e2 : IntKind.i64.wrap ((t - a) * l) = (t - a) * l := wrap_i (by omega) (by omega)
  have e3 : IntKind.i64.wrap (n - (t - a) * l) = n - (t - a) * l := wrap_i (by omega) (by omega)
  clear hp hk hs hh
  go_enter Try.func16, Try.ntmps16
  go_wp2_with fail
  refine (MK.out _).mono ?_; rintro e w1 ⟨rfl, hb⟩
  have hp := HP.out.step hb
  have z0 := hp.p0
  have z4 := hp.c0
  have z1 := hp.p1
  have z5 := hp.c1
  have z2 := hp.p2
  have z6 := hp.c2
  have z3 := hp.p3
  have z7 := hp.c3
  have HQ := Lib.hid hp
  clear hp hb HP MK
  go_wp2_with fail
  refine (TK.out _).mono ?_; rintro e w' ⟨rfl, rfl⟩
  go_wp2_with fail
  clear e1 e2 e3
  all_goals (go_ret; exact ⟨ret_int (by rw [E.out]; unfold subS; split <;> omega), HQ.out.be⟩)

theorem Level_yes (k l v b a n t : Int) (sa ha : Option Addr) (sn sc hn hc : Nat) (w : World) (h : MayG k l v b a n sn hn) (t1 : 0 ≤ t) (t2 : t ≤ 1099511627776) :
    Calls Try.prog 15 #[.agg #[.int .i64 k, .int .i64 l, .int .i64 v, .int .i64 b], .agg #[.int .i64 a, .int .i64 n, .slice sa sn sc, .slice ha hn hc], .int .i64 t] w fun e w' => e = .returned (.int .i64 (levG l a n (tmax t a))) ∧ Below w.heap.size w w' := by
  by_cases hle : t < a
  · exact Level_lo k l v b a n t sa ha sn sc hn hc w h t1 t2 hle
  · exact Level_hi k l v b a n t sa ha sn sc hn hc w h t1 t2 (by omega)
theorem rLevel_yes (k l v b a n t : Int) (sa ha : Option Addr) (sn sc hn hc : Nat) (w : World) (h : MayG k l v b a n sn hn) (t1 : 0 ≤ t) (t2 : t ≤ 1099511627776) :
    Calls Try.prog 16 #[.agg #[.int .i64 k, .int .i64 l, .int .i64 v, .int .i64 b], .agg #[.int .i64 a, .int .i64 n, .slice sa sn sc, .slice ha hn hc], .int .i64 t] w fun e w' => e = .returned (.int .i64 (levG l a n (tmax t a))) ∧ Below w.heap.size w w' := by
  by_cases hle : t ≤ a
  · exact rLevel_lo k l v b a n t sa ha sn sc hn hc w h t1 t2 hle
  · exact rLevel_hi k l v b a n t sa ha sn sc hn hc w h t1 t2 (by omega)
theorem up_eq {a b : Int} (ha : 0 < a) (hb : 1 ≤ b) : (a + b - 1) / b = upS a b := by
  unfold upS
  rw [if_neg (by omega)]
  have h1 : b * (a / b) + a % b = a := Int.mul_ediv_add_emod a b
  have h2 : 0 ≤ a % b := Int.emod_nonneg _ (by omega)
  have h3 : a % b < b := Int.emod_lt_of_pos _ (by omega)
  split
  · rename_i h
    have e : a + b - 1 = (b - 1) + b * (a / b) := by omega
    rw [e, Int.add_mul_ediv_left _ _ (by omega), Int.ediv_eq_zero_of_lt (by omega) (by omega)]; omega
  · rename_i h
    have e : a + b - 1 = (a % b - 1) + b * (a / b + 1) := by rw [Int.mul_add]; omega
    rw [e, Int.add_mul_ediv_left _ _ (by omega), Int.ediv_eq_zero_of_lt (by omega) (by omega)]; omega
theorem rUp_pos (a b : Int) (w : World) (h1 : 0 < a) (h2 : a ≤ 4398046511104) (h3 : 1 ≤ b) (h4 : b ≤ 1048576) : Calls Try.prog 30 #[.int .i64 a, .int .i64 b] w fun e w' => e = .returned (.int .i64 (upS a b)) ∧ w = w' := by
  have E := Lib.hid (up_eq h1 h3)
  have hz : (b == 0) = false := by simp; omega
  have q1 : 0 ≤ (a + b - 1) / b := Int.ediv_nonneg (by omega) (by omega)
  have q2 : (a + b - 1) / b ≤ a + b - 1 := Int.ediv_le_self _ (by omega)
  go_enter Try.func30, Try.ntmps30
  go_wp2
  go_ret
  exact ⟨ret_int E.out, rfl⟩
theorem upS_0 (b : Int) : upS 0 b = 0 := by unfold upS; split <;> simp
theorem rUp_zero (b : Int) (w : World) : Calls Try.prog 30 #[.int .i64 0, .int .i64 b] w fun e w' => e = .returned (.int .i64 (upS 0 b)) ∧ w = w' := by
  have E := Lib.hid (upS_0 b).symm
  go_enter Try.func30, Try.ntmps30
  go_wp2
  go_ret
  exact ⟨ret_int E.out, rfl⟩
theorem rUp_go (a b : Int) (w : World) (h1 : 0 ≤ a) (h2 : a ≤ 4398046511104) (h3 : 1 ≤ b) (h4 : b ≤ 1048576) : Calls Try.prog 30 #[.int .i64 a, .int .i64 b] w fun e w' => e = .returned (.int .i64 (upS a b)) ∧ w = w' := by
  by_cases h : a = 0
  · subst h; exact rUp_zero b w
  · exact rUp_pos a b w (by omega) h2 h3 h4

set_option maxRecDepth 100000 in
theorem Ends_yes (k l v b a n : Int) (sa ha : Option Addr) (sn sc hn hc : Nat) (w : World) (h : MayG k l v b a n sn hn) :
    Calls Try.prog 17 #[.agg #[.int .i64 k, .int .i64 l, .int .i64 v, .int .i64 b], .agg #[.int .i64 a, .int .i64 n, .slice sa sn sc, .slice ha hn hc]] w fun e w' => e = .returned (.int .i64 (a + upS n l)) ∧ Below w.heap.size w w' := by
  have MK := Lib.hid (fun u => May_yes k l v b a n sa ha sn sc hn hc u h)
  have HP := Lib.hid (PC.made w k l v b a n (.slice sa sn sc) (.slice ha hn hc) 23 27)
  obtain ⟨l1, l2, v1, v2⟩ := h.1.lv
  obtain ⟨m1, m2⟩ := h.1.M
  obtain ⟨hp, hk, ⟨ha1, ha2⟩, hn1, hn2, hs, hh⟩ := h
  have UP := Lib.hid (fun u => rUp_go n l u hn1 (by omega) l1 l2)
  have LA := Lib.hid (fun u => lasts_any n k l v b u hn1 (by omega) l1 l2)
  obtain ⟨u1, u2⟩ := upS_bd hn1 l1
  have e1 : IntKind.i64.wrap (a + upS n l) = a + upS n l := wrap_i (by omega) (by omega)
  have e2 : IntKind.u64.wrap n = n := wrap_id (by unfold U64; omega)
  clear hp hk hs hh
  generalize upS n l = r at *
  go_enter Try.func17, Try.ntmps17
  go_wp2_with fail
  refine (MK.out _).mono ?_; rintro e w1 ⟨rfl, hb⟩
  have hp := HP.out.step hb
  have z0 := hp.p0
  have z4 := hp.c0
  have z1 := hp.p1
  have z5 := hp.c1
  have z2 := hp.p2
  have z6 := hp.c2
  have z3 := hp.p3
  have z7 := hp.c3
  have HQ := Lib.hid hp
  have HD := Lib.hid hp.drew
  clear hp hb HP MK
  go_wp2_with fail
  go_region_held3 (fun w' => w'.cell? ⟨w.heap.size, 0, none⟩ = some (.int .i64 k) ∧ w'.cell? ⟨w.heap.size, 1, none⟩ = some (.int .i64 l) ∧ w'.cell? ⟨w.heap.size, 2, none⟩ = some (.int .i64 v) ∧ w'.cell? ⟨w.heap.size, 3, none⟩ = some (.int .i64 b) ∧ w'.cell? ⟨w.heap.size + 1, 0, none⟩ = some (.int .i64 a) ∧ w'.cell? ⟨w.heap.size + 1, 1, none⟩ = some (.int .i64 n) ∧ w'.cell? ⟨w.heap.size + 1, 2, none⟩ = some (.slice sa sn sc) ∧ w'.cell? ⟨w.heap.size + 1, 3, none⟩ = some (.slice ha hn hc)) (first | exact ⟨z0, z1, z2, z3, z4, z5, z6, z7⟩ | exact ⟨y0, y1, y2, y3, y4, y5, y6, y7⟩ | go_keep) ((go_at_call 28; refine (LA.out _).mono ?_; rintro e w2 ⟨rfl, hb2⟩; have hp2 := HD.out.step hb2; have HP2 := Lib.hid hp2; have y0 := hp2.p0; have y1 := hp2.p1; have y2 := hp2.p2; have y3 := hp2.p3; have y4 := hp2.c0; have y5 := hp2.c1; have y6 := hp2.c2; have y7 := hp2.c3; clear hb2 hp2))
  all_goals (go_wp2_with fail; go_ret; exact ⟨rfl, HP2.out.be⟩)

set_option maxRecDepth 100000 in
theorem rEnds_yes (k l v b a n : Int) (sa ha : Option Addr) (sn sc hn hc : Nat) (w : World) (h : MayG k l v b a n sn hn) :
    Calls Try.prog 18 #[.agg #[.int .i64 k, .int .i64 l, .int .i64 v, .int .i64 b], .agg #[.int .i64 a, .int .i64 n, .slice sa sn sc, .slice ha hn hc]] w fun e w' => e = .returned (.int .i64 (a + upS n l)) ∧ Below w.heap.size w w' := by
  have MK := Lib.hid (fun u => rMay_yes k l v b a n sa ha sn sc hn hc u h)
  have HP := Lib.hid (PC.made w k l v b a n (.slice sa sn sc) (.slice ha hn hc) 23 27)
  obtain ⟨l1, l2, v1, v2⟩ := h.1.lv
  obtain ⟨m1, m2⟩ := h.1.M
  obtain ⟨hp, hk, ⟨ha1, ha2⟩, hn1, hn2, hs, hh⟩ := h
  have UP := Lib.hid (fun u => rUp_go n l u hn1 (by omega) l1 l2)
  have LA := Lib.hid (fun u => lasts_any n k l v b u hn1 (by omega) l1 l2)
  obtain ⟨u1, u2⟩ := upS_bd hn1 l1
  have e1 : IntKind.i64.wrap (a + upS n l) = a + upS n l := wrap_i (by omega) (by omega)
  have e2 : IntKind.u64.wrap n = n := wrap_id (by unfold U64; omega)
  clear hp hk hs hh
  generalize upS n l = r at *
  go_enter Try.func18, Try.ntmps18
  go_wp2_with fail
  refine (MK.out _).mono ?_; rintro e w1 ⟨rfl, hb⟩
  have hp := HP.out.step hb
  have z0 := hp.p0
  have z4 := hp.c0
  have z1 := hp.p1
  have z5 := hp.c1
  have z2 := hp.p2
  have z6 := hp.c2
  have z3 := hp.p3
  have z7 := hp.c3
  have HQ := Lib.hid hp
  have HD := Lib.hid hp.drew
  clear hp hb HP MK
  go_wp2_with fail
  go_quiet ((go_at_call 30; exact quiet_mine (UP.out _)))
  go_wp2_with fail
  go_ret
  exact ⟨rfl, (HQ.out.drewN _).be⟩
end Go.Proofs.Ytdmephlappmmdaa
