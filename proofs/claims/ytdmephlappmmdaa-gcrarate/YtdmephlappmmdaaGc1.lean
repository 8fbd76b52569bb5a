/- The contracts of gcra.May and of the document's own. WRITTEN BY gen_gc1.py. -/
import Derived.Test.YtdmephlappmmdaaGc0
-- prune
namespace Go.Proofs.Ytdmephlappmmdaa
open Go.ChangeShapes Go.WideShapes Go.ChangeAt Go.RowKit
set_option linter.unusedVariables false

/-- Whether a cell may be one of a bucket. -/
def MayG (k l v b a n : Int) (sn hn : Nat) : Prop := MayP k l v b ∧ k = 1 ∧ (0 ≤ a ∧ a ≤ 1099511627776) ∧ 0 ≤ n ∧ n ≤ l * v ∧ sn = 0 ∧ hn = 0
instance (k l v b a n : Int) (sn hn : Nat) : Decidable (MayG k l v b a n sn hn) := by unfold MayG; infer_instance
theorem MayP.lv {k l v b : Int} (h : MayP k l v b) : 1 ≤ l ∧ l ≤ 1048576 ∧ 1 ≤ v ∧ v ≤ 1048576 := ⟨h.2.2.2.2.1, h.2.2.2.2.2.1, h.2.2.1, h.2.2.2.1⟩
theorem MayP.M {k l v b : Int} (h : MayP k l v b) : 1 ≤ l * v ∧ l * v ≤ 1099511627776 := by
  obtain ⟨h1, h2, h3, h4⟩ := h.lv
  have := prod_bd (show 0 ≤ l by omega) h2 (show 0 ≤ v by omega) h4
  have := Int.mul_le_mul h1 h3 (by omega) (show (0 : Int) ≤ l by omega)
  omega

set_option maxRecDepth 100000 in
set_option maxHeartbeats 2000000 in
theorem May_p (k l v b a n : Int) (sa ha : Option Addr) (sn sc hn hc : Nat) (w : World) (h : ¬ MayP k l v b) :
    Calls Try.prog 13 #[.agg #[.int .i64 k, .int .i64 l, .int .i64 v, .int .i64 b], .agg #[.int .i64 a, .int .i64 n, .slice sa sn sc, .slice ha hn hc]] w fun e w' => e = .returned (.bool false) ∧ Below w.heap.size w w' := by
  have CK := Lib.hid (fun u => Check_no k l v b u h)
  clear h
  have HP := Lib.hid (PC.made w k l v b a n (.slice sa sn sc) (.slice ha hn hc) 23 27)
  go_enter Try.func13, Try.ntmps13
  go_wp2_with fail
  refine (CK.out _).mono ?_; rintro e w1 ⟨rfl, hb⟩
  have hp := HP.out.step hb
  have z0 := hp.p0
  have z4 := hp.c0
  have z1 := hp.p1
  have z5 := hp.c1
  have z2 := hp.p2
  have z6 := hp.c2
  have z3 := hp.p3
  have z7 := hp.c3
  have HQ := Lib.hid hp
  have HD := Lib.hid hp.drew
  clear hp hb HP CK
  go_wp2_with fail
  go_ret
  exact ⟨rfl, HQ.out.be⟩

set_option maxRecDepth 100000 in
set_option maxHeartbeats 2000000 in
theorem May_k (k l v b a n : Int) (sa ha : Option Addr) (sn sc hn hc : Nat) (w : World) (h : MayP k l v b) (hk : ¬ k = 1) :
    Calls Try.prog 13 #[.agg #[.int .i64 k, .int .i64 l, .int .i64 v, .int .i64 b], .agg #[.int .i64 a, .int .i64 n, .slice sa sn sc, .slice ha hn hc]] w fun e w' => e = .returned (.bool false) ∧ Below w.heap.size w w' := by
  have CK := Lib.hid (fun u => Check_yes k l v b u h)
  have tk : (k != 1) = true := by simp [hk]
  clear h hk
  have HP := Lib.hid (PC.made w k l v b a n (.slice sa sn sc) (.slice ha hn hc) 23 27)
  go_enter Try.func13, Try.ntmps13
  go_wp2_with fail
  refine (CK.out _).mono ?_; rintro e w1 ⟨rfl, hb⟩
  have hp := HP.out.step hb
  have z0 := hp.p0
  have z4 := hp.c0
  have z1 := hp.p1
  have z5 := hp.c1
  have z2 := hp.p2
  have z6 := hp.c2
  have z3 := hp.p3
  have z7 := hp.c3
  have HQ := Lib.hid hp
  have HD := Lib.hid hp.drew
  clear hp hb HP CK
  go_wp2_with fail
  go_ret
  exact ⟨rfl, HQ.out.be⟩

set_option maxRecDepth 100000 in
set_option maxHeartbeats 2000000 in
theorem May_a (k l v b a n : Int) (sa ha : Option Addr) (sn sc hn hc : Nat) (w : World) (h : MayP k l v b) (hk : k = 1) (ha1 : ¬ (0 ≤ a ∧ a ≤ 1099511627776)) :
    Calls Try.prog 13 #[.agg #[.int .i64 k, .int .i64 l, .int .i64 v, .int .i64 b], .agg #[.int .i64 a, .int .i64 n, .slice sa sn sc, .slice ha hn hc]] w fun e w' => e = .returned (.bool false) ∧ Below w.heap.size w w' := by
  have CK := Lib.hid (fun u => Check_yes k l v b u h)
  have tk : (k != 1) = false := by simp [hk]
  clear hk
  have TK := Lib.hid (fun u => isTick_no a u ha1)
  clear h ha1
  have HP := Lib.hid (PC.made w k l v b a n (.slice sa sn sc) (.slice ha hn hc) 23 27)
  go_enter Try.func13, Try.ntmps13
  go_wp2_with fail
  refine (CK.out _).mono ?_; rintro e w1 ⟨rfl, hb⟩
  have hp := HP.out.step hb
  have z0 := hp.p0
  have z4 := hp.c0
  have z1 := hp.p1
  have z5 := hp.c1
  have z2 := hp.p2
  have z6 := hp.c2
  have z3 := hp.p3
  have z7 := hp.c3
  have HQ := Lib.hid hp
  have HD := Lib.hid hp.drew
  clear hp hb HP CK
  go_wp2_with fail
  go_quiet ((go_at_call 21; exact quiet_mine (TK.out _)))
  go_wp2_with fail
  go_ret
  exact ⟨rfl, (HQ.out.drewN _).be⟩

set_option maxRecDepth 100000 in
set_option maxHeartbeats 2000000 in
theorem May_n (k l v b a n : Int) (sa ha : Option Addr) (sn sc hn hc : Nat) (w : World) (h : MayP k l v b) (hk : k = 1) (ha1 : 0 ≤ a) (ha2 : a ≤ 1099511627776) (hn1 : n < 0) :
    Calls Try.prog 13 #[.agg #[.int .i64 k, .int .i64 l, .int .i64 v, .int .i64 b], .agg #[.int .i64 a, .int .i64 n, .slice sa sn sc, .slice ha hn hc]] w fun e w' => e = .returned (.bool false) ∧ Below w.heap.size w w' := by
  have CK := Lib.hid (fun u => Check_yes k l v b u h)
  have tk : (k != 1) = false := by simp [hk]
  clear hk
  have TK := Lib.hid (fun u => isTick_yes a u ha1 ha2)
  have d1 : decide (0 ≤ n) = false := by simp; omega
  clear h
  have HP := Lib.hid (PC.made w k l v b a n (.slice sa sn sc) (.slice ha hn hc) 23 27)
  go_enter Try.func13, Try.ntmps13
  go_wp2_with fail
  refine (CK.out _).mono ?_; rintro e w1 ⟨rfl, hb⟩
  have hp := HP.out.step hb
  have z0 := hp.p0
  have z4 := hp.c0
  have z1 := hp.p1
  have z5 := hp.c1
  have z2 := hp.p2
  have z6 := hp.c2
  have z3 := hp.p3
  have z7 := hp.c3
  have HQ := Lib.hid hp
  have HD := Lib.hid hp.drew
  clear hp hb HP CK
  go_wp2_with fail
  go_quiet ((go_at_call 21; exact quiet_mine (TK.out _)))
  go_wp2_with fail
  go_ret
  exact ⟨rfl, (HQ.out.drewN _).be⟩

set_option maxRecDepth 100000 in
set_option maxHeartbeats 2000000 in
theorem May_m (k l v b a n : Int) (sa ha : Option Addr) (sn sc hn hc : Nat) (w : World) (h : MayP k l v b) (hk : k = 1) (ha1 : 0 ≤ a) (ha2 : a ≤ 1099511627776) (hn1 : 0 ≤ n) (hn2 : l * v < n) :
    Calls Try.prog 13 #[.agg #[.int .i64 k, .int .i64 l, .int .i64 v, .int .i64 b], .agg #[.int .i64 a, .int .i64 n, .slice sa sn sc, .slice ha hn hc]] w fun e w' => e = .returned (.bool false) ∧ Below w.heap.size w w' := by
  obtain ⟨l1, l2, v1, v2⟩ := h.lv
  obtain ⟨m1, m2⟩ := h.M
  have CK := Lib.hid (fun u => Check_yes k l v b u h)
  have tk : (k != 1) = false := by simp [hk]
  clear hk
  have TK := Lib.hid (fun u => isTick_yes a u ha1 ha2)
  have FL := Lib.hid (fun u => full_any k l v b u (by omega) l2 (by omega) v2)
  have e1 : IntKind.i64.wrap (l * v) = l * v := wrap_i (by omega) (by omega)
  generalize l * v = M at *
  have d1 : decide (n ≤ M) = false := by simp; omega
  clear h
  have HP := Lib.hid (PC.made w k l v b a n (.slice sa sn sc) (.slice ha hn hc) 23 27)
  go_enter Try.func13, Try.ntmps13
  go_wp2_with fail
  refine (CK.out _).mono ?_; rintro e w1 ⟨rfl, hb⟩
  have hp := HP.out.step hb
  have z0 := hp.p0
  have z4 := hp.c0
  have z1 := hp.p1
  have z5 := hp.c1
  have z2 := hp.p2
  have z6 := hp.c2
  have z3 := hp.p3
  have z7 := hp.c3
  have HQ := Lib.hid hp
  have HD := Lib.hid hp.drew
  clear hp hb HP CK
  go_wp2_with fail
  first | (go_region_with (first | (go_at_call 21; refine (TK.out _).mono ?_; rintro e w' ⟨rfl, rfl⟩) | (go_at_call 26; refine (FL.out _).mono ?_; rintro e w2 ⟨rfl, hb2⟩; have hp2 := HD.out.step hb2; have HP2 := Lib.hid hp2; have y0 := hp2.p0; have y1 := hp2.p1; have y2 := hp2.p2; have y3 := hp2.p3; have y4 := hp2.c0; have y5 := hp2.c1; have y6 := hp2.c2; have y7 := hp2.c3; clear hb2 hp2))) | fail
  all_goals (go_wp2_with fail; go_ret; exact ⟨rfl, HP2.out.be⟩)

set_option maxRecDepth 100000 in
set_option maxHeartbeats 2000000 in
theorem May_s (k l v b a n : Int) (sa ha : Option Addr) (sn sc hn hc : Nat) (w : World) (h : MayP k l v b) (hk : k = 1) (ha1 : 0 ≤ a) (ha2 : a ≤ 1099511627776) (hn1 : 0 ≤ n) (hn2 : n ≤ l * v) (hs : sn ≠ 0) :
    Calls Try.prog 13 #[.agg #[.int .i64 k, .int .i64 l, .int .i64 v, .int .i64 b], .agg #[.int .i64 a, .int .i64 n, .slice sa sn sc, .slice ha hn hc]] w fun e w' => e = .returned (.bool false) ∧ Below w.heap.size w w' := by
  obtain ⟨l1, l2, v1, v2⟩ := h.lv
  obtain ⟨m1, m2⟩ := h.M
  have CK := Lib.hid (fun u => Check_yes k l v b u h)
  have tk : (k != 1) = false := by simp [hk]
  clear hk
  have TK := Lib.hid (fun u => isTick_yes a u ha1 ha2)
  have FL := Lib.hid (fun u => full_any k l v b u (by omega) l2 (by omega) v2)
  have e1 : IntKind.i64.wrap (l * v) = l * v := wrap_i (by omega) (by omega)
  generalize l * v = M at *
  have d1 : ((sn : Int) == 0) = false := by simp; omega
  clear h hs
  have HP := Lib.hid (PC.made w k l v b a n (.slice sa sn sc) (.slice ha hn hc) 23 27)
  go_enter Try.func13, Try.ntmps13
  go_wp2_with fail
  refine (CK.out _).mono ?_; rintro e w1 ⟨rfl, hb⟩
  have hp := HP.out.step hb
  have z0 := hp.p0
  have z4 := hp.c0
  have z1 := hp.p1
  have z5 := hp.c1
  have z2 := hp.p2
  have z6 := hp.c2
  have z3 := hp.p3
  have z7 := hp.c3
  have HQ := Lib.hid hp
  have HD := Lib.hid hp.drew
  clear hp hb HP CK
  go_wp2_with fail
  first | (go_region_with (first | (go_at_call 21; refine (TK.out _).mono ?_; rintro e w' ⟨rfl, rfl⟩) | (go_at_call 26; refine (FL.out _).mono ?_; rintro e w2 ⟨rfl, hb2⟩; have hp2 := HD.out.step hb2; have HP2 := Lib.hid hp2; have y0 := hp2.p0; have y1 := hp2.p1; have y2 := hp2.p2; have y3 := hp2.p3; have y4 := hp2.c0; have y5 := hp2.c1; have y6 := hp2.c2; have y7 := hp2.c3; clear hb2 hp2))) | fail
  all_goals (go_wp2_with fail; go_ret; exact ⟨rfl, HP2.out.be⟩)

set_option maxRecDepth 100000 in
set_option maxHeartbeats 2000000 in
theorem May_h (k l v b a n : Int) (sa ha : Option Addr) (sc hn hc : Nat) (w : World) (h : MayP k l v b) (hk : k = 1) (ha1 : 0 ≤ a) (ha2 : a ≤ 1099511627776) (hn1 : 0 ≤ n) (hn2 : n ≤ l * v) (hh : hn ≠ 0) :
    Calls Try.prog 13 #[.agg #[.int .i64 k, .int .i64 l, .int .i64 v, .int .i64 b], .agg #[.int .i64 a, .int .i64 n, .slice sa 0 sc, .slice ha hn hc]] w fun e w' => e = .returned (.bool false) ∧ Below w.heap.size w w' := by
  obtain ⟨l1, l2, v1, v2⟩ := h.lv
  obtain ⟨m1, m2⟩ := h.M
  have CK := Lib.hid (fun u => Check_yes k l v b u h)
  have tk : (k != 1) = false := by simp [hk]
  clear hk
  have TK := Lib.hid (fun u => isTick_yes a u ha1 ha2)
  have FL := Lib.hid (fun u => full_any k l v b u (by omega) l2 (by omega) v2)
  have e1 : IntKind.i64.wrap (l * v) = l * v := wrap_i (by omega) (by omega)
  generalize l * v = M at *
  have d1 : ((hn : Int) == 0) = false := by simp; omega
  clear h hh
  have HP := Lib.hid (PC.made w k l v b a n (.slice sa 0 sc) (.slice ha hn hc) 23 27)
  go_enter Try.func13, Try.ntmps13
  go_wp2_with fail
  refine (CK.out _).mono ?_; rintro e w1 ⟨rfl, hb⟩
  have hp := HP.out.step hb
  have z0 := hp.p0
  have z4 := hp.c0
  have z1 := hp.p1
  have z5 := hp.c1
  have z2 := hp.p2
  have z6 := hp.c2
  have z3 := hp.p3
  have z7 := hp.c3
  have HQ := Lib.hid hp
  have HD := Lib.hid hp.drew
  clear hp hb HP CK
  go_wp2_with fail
  first | (go_region_with (first | (go_at_call 21; refine (TK.out _).mono ?_; rintro e w' ⟨rfl, rfl⟩) | (go_at_call 26; refine (FL.out _).mono ?_; rintro e w2 ⟨rfl, hb2⟩; have hp2 := HD.out.step hb2; have HP2 := Lib.hid hp2; have y0 := hp2.p0; have y1 := hp2.p1; have y2 := hp2.p2; have y3 := hp2.p3; have y4 := hp2.c0; have y5 := hp2.c1; have y6 := hp2.c2; have y7 := hp2.c3; clear hb2 hp2))) | fail
  all_goals (go_wp2_with fail; go_ret; exact ⟨rfl, HP2.out.be⟩)

set_option maxRecDepth 100000 in
set_option maxHeartbeats 2000000 in
theorem May_yes' (k l v b a n : Int) (sa ha : Option Addr) (sc hc : Nat) (w : World) (h : MayP k l v b) (hk : k = 1) (ha1 : 0 ≤ a) (ha2 : a ≤ 1099511627776) (hn1 : 0 ≤ n) (hn2 : n ≤ l * v) :
    Calls Try.prog 13 #[.agg #[.int .i64 k, .int .i64 l, .int .i64 v, .int .i64 b], .agg #[.int .i64 a, .int .i64 n, .slice sa 0 sc, .slice ha 0 hc]] w fun e w' => e = .returned (.bool true) ∧ Below w.heap.size w w' := by
  obtain ⟨l1, l2, v1, v2⟩ := h.lv
  obtain ⟨m1, m2⟩ := h.M
  have CK := Lib.hid (fun u => Check_yes k l v b u h)
  have tk : (k != 1) = false := by simp [hk]
  clear hk
  have TK := Lib.hid (fun u => isTick_yes a u ha1 ha2)
  have FL := Lib.hid (fun u => full_any k l v b u (by omega) l2 (by omega) v2)
  have e1 : IntKind.i64.wrap (l * v) = l * v := wrap_i (by omega) (by omega)
  generalize l * v = M at *
  clear h
  have HP := Lib.hid (PC.made w k l v b a n (.slice sa 0 sc) (.slice ha 0 hc) 23 27)
  go_enter Try.func13, Try.ntmps13
  go_wp2_with fail
  refine (CK.out _).mono ?_; rintro e w1 ⟨rfl, hb⟩
  have hp := HP.out.step hb
  have z0 := hp.p0
  have z4 := hp.c0
  have z1 := hp.p1
  have z5 := hp.c1
  have z2 := hp.p2
  have z6 := hp.c2
  have z3 := hp.p3
  have z7 := hp.c3
  have HQ := Lib.hid hp
  have HD := Lib.hid hp.drew
  clear hp hb HP CK
  go_wp2_with fail
  go_region_held3 (fun w' => w'.cell? ⟨w.heap.size, 0, none⟩ = some (.int .i64 k) ∧ w'.cell? ⟨w.heap.size, 1, none⟩ = some (.int .i64 l) ∧ w'.cell? ⟨w.heap.size, 2, none⟩ = some (.int .i64 v) ∧ w'.cell? ⟨w.heap.size, 3, none⟩ = some (.int .i64 b) ∧ w'.cell? ⟨w.heap.size + 1, 0, none⟩ = some (.int .i64 a) ∧ w'.cell? ⟨w.heap.size + 1, 1, none⟩ = some (.int .i64 n) ∧ w'.cell? ⟨w.heap.size + 1, 2, none⟩ = some (.slice sa 0 sc) ∧ w'.cell? ⟨w.heap.size + 1, 3, none⟩ = some (.slice ha 0 hc)) (first | exact ⟨z0, z1, z2, z3, z4, z5, z6, z7⟩ | exact ⟨y0, y1, y2, y3, y4, y5, y6, y7⟩ | go_keep) (first | (go_at_call 21; refine (TK.out _).mono ?_; rintro e w' ⟨rfl, rfl⟩) | (go_at_call 26; refine (FL.out _).mono ?_; rintro e w2 ⟨rfl, hb2⟩; have hp2 := HD.out.step hb2; have HP2 := Lib.hid hp2; have y0 := hp2.p0; have y1 := hp2.p1; have y2 := hp2.p2; have y3 := hp2.p3; have y4 := hp2.c0; have y5 := hp2.c1; have y6 := hp2.c2; have y7 := hp2.c3; clear hb2 hp2))
  all_goals (go_wp2_with fail; go_ret; first | exact ⟨rfl, HP2.out.be⟩ | exact ⟨rfl, HD.out.be⟩)

theorem May_yes (k l v b a n : Int) (sa ha : Option Addr) (sn sc hn hc : Nat) (w : World) (h : MayG k l v b a n sn hn) : Calls Try.prog 13 #[.agg #[.int .i64 k, .int .i64 l, .int .i64 v, .int .i64 b], .agg #[.int .i64 a, .int .i64 n, .slice sa sn sc, .slice ha hn hc]] w fun e w' => e = .returned (.bool true) ∧ Below w.heap.size w w' := by
  obtain ⟨h1, h2, h3, h4, h5, rfl, rfl⟩ := h
  exact May_yes' k l v b a n sa ha sc hc w h1 h2 h3.1 h3.2 h4 h5
theorem May_no (k l v b a n : Int) (sa ha : Option Addr) (sn sc hn hc : Nat) (w : World) (h : ¬ MayG k l v b a n sn hn) : Calls Try.prog 13 #[.agg #[.int .i64 k, .int .i64 l, .int .i64 v, .int .i64 b], .agg #[.int .i64 a, .int .i64 n, .slice sa sn sc, .slice ha hn hc]] w fun e w' => e = .returned (.bool false) ∧ Below w.heap.size w w' := by
  by_cases h1 : MayP k l v b
  · by_cases h2 : k = 1
    · by_cases h3 : 0 ≤ a ∧ a ≤ 1099511627776
      · by_cases h4 : 0 ≤ n
        · by_cases h5 : n ≤ l * v
          · by_cases h6 : sn = 0
            · subst h6
              exact May_h k l v b a n sa ha sc hn hc w h1 h2 h3.1 h3.2 h4 h5 (fun e => h ⟨h1, h2, h3, h4, h5, rfl, e⟩)
            · exact May_s k l v b a n sa ha sn sc hn hc w h1 h2 h3.1 h3.2 h4 h5 h6
          · exact May_m k l v b a n sa ha sn sc hn hc w h1 h2 h3.1 h3.2 h4 (by omega)
        · exact May_n k l v b a n sa ha sn sc hn hc w h1 h2 h3.1 h3.2 (by omega)
      · exact May_a k l v b a n sa ha sn sc hn hc w h1 h2 h3
    · exact May_k k l v b a n sa ha sn sc hn hc w h1 h2
  · exact May_p k l v b a n sa ha sn sc hn hc w h1
end Go.Proofs.Ytdmephlappmmdaa
