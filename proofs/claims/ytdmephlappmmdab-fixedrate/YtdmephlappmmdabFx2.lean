/- The contracts of fixed's small functions: a window's place, what counts in it, when it ends. WRITTEN BY gen_fx2.py. -/
import Derived.Test.YtdmephlappmmdabFx1
import Derived.Test.YtdmephlappmmdabMem
-- prune
namespace Go.Proofs.Ytdmephlappmmdab
open Go.ChangeShapes Go.WideShapes Go.ChangeAt Go.RowKit
set_option linter.unusedVariables false

theorem Below.drewN' {B : Nat} {w w' : World} (h : Below B w w') (m : Nat) : Below B w (w'.drewN m) := ⟨h.os, h.tape, h.output, h.size, h.block⟩
theorem tdiv_i {t v : Int} (h1 : 0 ≤ t) : t.tdiv v = t / v := Int.tdiv_eq_ediv_of_nonneg h1
theorem win_bd {t v : Int} (h1 : 0 ≤ t) (h3 : 1 ≤ v) : 0 ≤ t / v ∧ t / v ≤ t ∧ 0 ≤ t / v * v ∧ t / v * v ≤ t ∧ t < t / v * v + v := by
  have q0 : 0 ≤ t / v := Int.ediv_nonneg h1 (by omega)
  have q1 : t / v ≤ t := Int.ediv_le_self _ h1
  have q2 : v * (t / v) + t % v = t := Int.mul_ediv_add_emod t v
  have q3 : 0 ≤ t % v := Int.emod_nonneg _ (by omega)
  have q4 : t % v < v := Int.emod_lt_of_pos _ (by omega)
  have q5 : 0 ≤ v * (t / v) := Int.mul_nonneg (by omega) q0
  rw [Int.mul_comm v] at q2 q5
  exact ⟨q0, q1, q5, by omega, by omega⟩
/-- What was let in in the window of t, which is not below a. -/
def totF (v a n t : Int) : Int := if t / v = a / v then n else 0
/-- When the window behind that of t begins. -/
def nextF (v t : Int) : Int := t / v * v + v
theorem nextF_eq (v t : Int) : v * (t / v + 1) = nextF v t := by unfold nextF; rw [Int.mul_add, Int.mul_comm v]; omega
/-- When nothing of a cell counts any more. -/
def endF (v a n : Int) : Int := if n = 0 then a else nextF v a
theorem place_ne {v a t : Int} (hv : 1 ≤ v) (h : ¬ t / v = a / v) : t / v * v ≠ a / v * v := fun e => h (Int.eq_of_mul_eq_mul_right (by omega) e)
set_option maxRecDepth 100000 in
theorem windowOf_any (k l v b t : Int) (w : World) (h1 : 0 ≤ t) (h2 : t ≤ 1099511627776) (h3 : 1 ≤ v) (h4 : v ≤ 1048576) :
    Calls Try.prog 29 #[.agg #[.int .i64 k, .int .i64 l, .int .i64 v, .int .i64 b], .int .i64 t] w fun e w' => e = .returned (.agg #[.int .i64 (t / v * v), .int .i64 (t / v * v + v)]) ∧ Below w.heap.size w w' := by
  have hz : (v == 0) = false := by simp; omega
  obtain ⟨q0, q1, q2, q3, q4⟩ := win_bd h1 h3
  have e1 : IntKind.i64.wrap (t / v * v) = t / v * v := wrap_i (by omega) (by omega)
  have e2 : IntKind.i64.wrap (t / v * v + v) = t / v * v + v := wrap_i (by omega) (by omega)
  have e3 : IntKind.i64.wrap (t / v) = t / v := wrap_i (by omega) (by omega)
  have e4 : t.tdiv v = t / v := tdiv_i h1
  go_enter Try.func29, Try.ntmps29
  go_wp2_with fail
  go_quiet (fail)
  go_wp2_with fail
  refine bodyPost_ret (v := .agg #[.int .i64 (t / v * v), .int .i64 (t / v * v + v)]) (by simp [results, Try.results29, go_sem]) rfl ⟨rfl, ?_⟩
  exact ((Below.drewN' (((Below.refl _ _).alloc (Nat.le_refl _) _).alloc (by simp) _) nq).setCell (p := ⟨_, 0, none⟩) (by simp) _).setCell (p := ⟨_, 1, none⟩) (by simp) _
theorem fieldW (a b : Int) (u : World) : (Instr.field 54 (.agg #[.int .i64 a, .int .i64 b]) 1).run Try.prog u = .ok (.int .i64 b) u := by kernel_rfl

set_option maxRecDepth 100000 in
set_option maxHeartbeats 1000000 in
theorem total_same (k l v b a n t : Int) (sa ha : Option Addr) (sn sc hn hc : Nat) (w : World) (h1 : 0 ≤ a) (h2 : a ≤ t) (h3 : t ≤ 1099511627776) (v1 : 1 ≤ v) (v2 : v ≤ 1048576) (h : t / v = a / v) :
    Calls Try.prog 23 #[.agg #[.int .i64 k, .int .i64 l, .int .i64 v, .int .i64 b], .agg #[.int .i64 a, .int .i64 n, .slice sa sn sc, .slice ha hn hc], .int .i64 t] w fun e w' => e = .returned (.int .i64 n) ∧ Below w.heap.size w w' := by
  have W1 := Lib.hid (fun u => windowOf_any k l v b t u (by omega) h3 v1 v2)
  have W2 := Lib.hid (fun u => windowOf_any k l v b a u h1 (by omega) v1 v2)
  rw [← h] at W2
  clear h
  generalize t / v * v = x at *
  generalize x + v = y at *
  have HD := Lib.hid (PC.made w k l v b a n (.slice sa sn sc) (.slice ha hn hc) 23 27).drew
  clear h1 h2 h3 v1 v2
  go_enter Try.func23, Try.ntmps23
  go_wp2_with fail
  go_region_held3 (fun w' => w'.cell? ⟨w.heap.size, 0, none⟩ = some (.int .i64 k) ∧ w'.cell? ⟨w.heap.size, 1, none⟩ = some (.int .i64 l) ∧ w'.cell? ⟨w.heap.size, 2, none⟩ = some (.int .i64 v) ∧ w'.cell? ⟨w.heap.size, 3, none⟩ = some (.int .i64 b) ∧ w'.cell? ⟨w.heap.size + 1, 0, none⟩ = some (.int .i64 a) ∧ w'.cell? ⟨w.heap.size + 1, 1, none⟩ = some (.int .i64 n) ∧ w'.cell? ⟨w.heap.size + 1, 2, none⟩ = some (.slice sa sn sc) ∧ w'.cell? ⟨w.heap.size + 1, 3, none⟩ = some (.slice ha hn hc)) (first | exact ⟨a0, a1, a2, a3, a4, a5, a6, a7⟩ | exact ⟨c0, c1, c2, c3, c4, c5, c6, c7⟩ | go_keep) (first | (go_at_call 29; (with_reducible refine (W1.out _).mono ?_); rintro e wa ⟨rfl, hb⟩; have hp := HD.out.step hb; have H1 := Lib.hid hp; have a0 := hp.p0; have a1 := hp.p1; have a2 := hp.p2; have a3 := hp.p3; have a4 := hp.c0; have a5 := hp.c1; have a6 := hp.c2; have a7 := hp.c3; clear hb hp) | (go_at_call 29; (with_reducible refine (W2.out _).mono ?_); rintro e wc ⟨rfl, hb⟩; have hp := H1.out.step hb; have H2 := Lib.hid hp; have c0 := hp.p0; have c1 := hp.p1; have c2 := hp.p2; have c3 := hp.p3; have c4 := hp.c0; have c5 := hp.c1; have c6 := hp.c2; have c7 := hp.c3; clear hb hp))
  all_goals (go_wp2_with fail; go_ret; exact ⟨rfl, H2.out.be⟩)

set_option maxRecDepth 100000 in
set_option maxHeartbeats 1000000 in
theorem total_else (k l v b a n t : Int) (sa ha : Option Addr) (sn sc hn hc : Nat) (w : World) (h1 : 0 ≤ a) (h2 : a ≤ t) (h3 : t ≤ 1099511627776) (v1 : 1 ≤ v) (v2 : v ≤ 1048576) (h : ¬ t / v = a / v) :
    Calls Try.prog 23 #[.agg #[.int .i64 k, .int .i64 l, .int .i64 v, .int .i64 b], .agg #[.int .i64 a, .int .i64 n, .slice sa sn sc, .slice ha hn hc], .int .i64 t] w fun e w' => e = .returned (.int .i64 0) ∧ Below w.heap.size w w' := by
  have W1 := Lib.hid (fun u => windowOf_any k l v b t u (by omega) h3 v1 v2)
  have W2 := Lib.hid (fun u => windowOf_any k l v b a u h1 (by omega) v1 v2)
  have ne : (t / v * v == a / v * v) = false := by have := place_ne v1 h; simpa using this
  clear h
  generalize t / v * v = x at *
  generalize a / v * v = y at *
  have HD := Lib.hid (PC.made w k l v b a n (.slice sa sn sc) (.slice ha hn hc) 23 27).drew
  clear h1 h2 h3 v1 v2
  go_enter Try.func23, Try.ntmps23
  go_wp2_with fail
  go_region_held3 (fun w' => w'.cell? ⟨w.heap.size, 0, none⟩ = some (.int .i64 k) ∧ w'.cell? ⟨w.heap.size, 1, none⟩ = some (.int .i64 l) ∧ w'.cell? ⟨w.heap.size, 2, none⟩ = some (.int .i64 v) ∧ w'.cell? ⟨w.heap.size, 3, none⟩ = some (.int .i64 b) ∧ w'.cell? ⟨w.heap.size + 1, 0, none⟩ = some (.int .i64 a) ∧ w'.cell? ⟨w.heap.size + 1, 1, none⟩ = some (.int .i64 n) ∧ w'.cell? ⟨w.heap.size + 1, 2, none⟩ = some (.slice sa sn sc) ∧ w'.cell? ⟨w.heap.size + 1, 3, none⟩ = some (.slice ha hn hc)) (first | exact ⟨a0, a1, a2, a3, a4, a5, a6, a7⟩ | exact ⟨c0, c1, c2, c3, c4, c5, c6, c7⟩ | go_keep) (first | (go_at_call 29; (with_reducible refine (W1.out _).mono ?_); rintro e wa ⟨rfl, hb⟩; have hp := HD.out.step hb; have H1 := Lib.hid hp; have a0 := hp.p0; have a1 := hp.p1; have a2 := hp.p2; have a3 := hp.p3; have a4 := hp.c0; have a5 := hp.c1; have a6 := hp.c2; have a7 := hp.c3; clear hb hp) | (go_at_call 29; (with_reducible refine (W2.out _).mono ?_); rintro e wc ⟨rfl, hb⟩; have hp := H1.out.step hb; have H2 := Lib.hid hp; have c0 := hp.p0; have c1 := hp.p1; have c2 := hp.p2; have c3 := hp.p3; have c4 := hp.c0; have c5 := hp.c1; have c6 := hp.c2; have c7 := hp.c3; clear hb hp))
  all_goals (go_wp2_with fail; go_ret; exact ⟨rfl, H2.out.be⟩)

theorem total_any (k l v b a n t : Int) (sa ha : Option Addr) (sn sc hn hc : Nat) (w : World) (h1 : 0 ≤ a) (h2 : a ≤ t) (h3 : t ≤ 1099511627776) (v1 : 1 ≤ v) (v2 : v ≤ 1048576) :
    Calls Try.prog 23 #[.agg #[.int .i64 k, .int .i64 l, .int .i64 v, .int .i64 b], .agg #[.int .i64 a, .int .i64 n, .slice sa sn sc, .slice ha hn hc], .int .i64 t] w fun e w' => e = .returned (.int .i64 (totF v a n t)) ∧ Below w.heap.size w w' := by
  unfold totF
  split
  · rename_i h; exact total_same k l v b a n t sa ha sn sc hn hc w h1 h2 h3 v1 v2 h
  · rename_i h; exact total_else k l v b a n t sa ha sn sc hn hc w h1 h2 h3 v1 v2 h
set_option maxRecDepth 100000 in
theorem ends_0 (k l v b a : Int) (sa ha : Option Addr) (sn sc hn hc : Nat) (w : World) :
    Calls Try.prog 25 #[.agg #[.int .i64 k, .int .i64 l, .int .i64 v, .int .i64 b], .agg #[.int .i64 a, .int .i64 0, .slice sa sn sc, .slice ha hn hc]] w fun e w' => e = .returned (.int .i64 a) ∧ Below w.heap.size w w' := by
  have HP := Lib.hid (PC.made w k l v b a 0 (.slice sa sn sc) (.slice ha hn hc) 23 27)
  go_enter Try.func25, Try.ntmps25
  go_wp2_with fail
  go_ret
  exact ⟨rfl, HP.out.be⟩
set_option maxRecDepth 100000 in
theorem ends_1 (k l v b a n : Int) (sa ha : Option Addr) (sn sc hn hc : Nat) (w : World) (h1 : 0 ≤ a) (h2 : a ≤ 1099511627776) (v1 : 1 ≤ v) (v2 : v ≤ 1048576) (h : n ≠ 0) :
    Calls Try.prog 25 #[.agg #[.int .i64 k, .int .i64 l, .int .i64 v, .int .i64 b], .agg #[.int .i64 a, .int .i64 n, .slice sa sn sc, .slice ha hn hc]] w fun e w' => e = .returned (.int .i64 (a / v * v + v)) ∧ Below w.heap.size w w' := by
  have W1 := Lib.hid (fun u => windowOf_any k l v b a u h1 h2 v1 v2)
  have HP := Lib.hid (PC.made w k l v b a n (.slice sa sn sc) (.slice ha hn hc) 23 27)
  have nz : (n == 0) = false := by simp [h]
  clear h
  generalize a / v * v = x at *
  generalize x + v = y at *
  have hf := fieldW x y
  go_enter Try.func25, Try.ntmps25
  go_wp2_with fail
  refine (W1.out _).mono ?_; rintro e w1 ⟨rfl, hb⟩
  have HQ := Lib.hid (HP.out.step hb)
  clear hb
  go_wp2_with fail
  go_ret
  exact ⟨rfl, HQ.out.be⟩
theorem ends_any (k l v b a n : Int) (sa ha : Option Addr) (sn sc hn hc : Nat) (w : World) (h1 : 0 ≤ a) (h2 : a ≤ 1099511627776) (v1 : 1 ≤ v) (v2 : v ≤ 1048576) :
    Calls Try.prog 25 #[.agg #[.int .i64 k, .int .i64 l, .int .i64 v, .int .i64 b], .agg #[.int .i64 a, .int .i64 n, .slice sa sn sc, .slice ha hn hc]] w fun e w' => e = .returned (.int .i64 (endF v a n)) ∧ Below w.heap.size w w' := by
  unfold endF nextF
  split
  · rename_i h; subst h; exact ends_0 k l v b a sa ha sn sc hn hc w
  · rename_i h; exact ends_1 k l v b a n sa ha sn sc hn hc w h1 h2 v1 v2 h
/-- In how many ticks a weight would be let in. -/
def retF (l v t m : Int) (al : Bool) : Int := if al = true then 0 else if l < m then 2199023255552 else nextF v t - t
set_option maxRecDepth 100000 in
theorem retry_0 (k l v b t m : Int) (w : World) : Calls Try.prog 24 #[.agg #[.int .i64 k, .int .i64 l, .int .i64 v, .int .i64 b], .int .i64 t, .int .i64 m, .bool true] w fun e w' => e = .returned (.int .i64 0) ∧ Below w.heap.size w w' := by
  go_enter Try.func24, Try.ntmps24
  go_wp2_with fail
  go_ret
  exact ⟨rfl, (Below.refl _ _).alloc (Nat.le_refl _) _⟩
set_option maxRecDepth 100000 in
theorem retry_1 (k l v b t m : Int) (w : World) (h : l < m) : Calls Try.prog 24 #[.agg #[.int .i64 k, .int .i64 l, .int .i64 v, .int .i64 b], .int .i64 t, .int .i64 m, .bool false] w fun e w' => e = .returned (.int .i64 2199023255552) ∧ Below w.heap.size w w' := by
  go_enter Try.func24, Try.ntmps24
  go_wp2_with fail
  go_ret
  exact ⟨rfl, (Below.refl _ _).alloc (Nat.le_refl _) _⟩
set_option maxRecDepth 100000 in
theorem retry_2 (k l v b t m : Int) (w : World) (h : ¬ l < m) (h1 : 0 ≤ t) (h2 : t ≤ 1099511627776) (v1 : 1 ≤ v) (v2 : v ≤ 1048576) : Calls Try.prog 24 #[.agg #[.int .i64 k, .int .i64 l, .int .i64 v, .int .i64 b], .int .i64 t, .int .i64 m, .bool false] w fun e w' => e = .returned (.int .i64 (t / v * v + v - t)) ∧ Below w.heap.size w w' := by
  have W1 := Lib.hid (fun u => windowOf_any k l v b t u h1 h2 v1 v2)
  obtain ⟨q0, q1, q2, q3, q4⟩ := win_bd h1 v1
  have HP := Lib.hid (PolAt.made w k l v b 23)
  have q5 : 0 ≤ t / v * v + v := by omega
  have q6 : t / v * v + v ≤ 1099512676352 := by omega
  clear q0 q1 q2 q3 q4
  generalize t / v * v = x at *
  generalize x + v = y at *
  have hf := fieldW x y
  go_enter Try.func24, Try.ntmps24
  go_wp2_with fail
  refine (W1.out _).mono ?_; rintro e w1 ⟨rfl, hb⟩
  have HQ := Lib.hid (HP.out.step hb)
  clear hb
  go_wp2_with fail
  go_ret
  exact ⟨rfl, HQ.out.be⟩
theorem retry_any (k l v b t m : Int) (al : Bool) (w : World) (h1 : 0 ≤ t) (h2 : t ≤ 1099511627776) (v1 : 1 ≤ v) (v2 : v ≤ 1048576) :
    Calls Try.prog 24 #[.agg #[.int .i64 k, .int .i64 l, .int .i64 v, .int .i64 b], .int .i64 t, .int .i64 m, .bool al] w fun e w' => e = .returned (.int .i64 (retF l v t m al)) ∧ Below w.heap.size w w' := by
  unfold retF nextF
  cases al
  · simp only [Bool.false_eq_true, if_false]
    split
    · rename_i h; exact retry_1 k l v b t m w h
    · rename_i h; exact retry_2 k l v b t m w h h1 h2 v1 v2
  · simp only [if_true]; exact retry_0 k l v b t m w

/-- The time at which an ask is done. -/
def tmax (t a : Int) : Int := if t ≤ a then a else t
theorem totF_at (v a n : Int) : totF v a n a = n := if_pos rfl
theorem totF_ne {v a n t : Int} (hle : a ≤ t) (hq : ¬ t / v = a / v) : 0 = totF v a n (tmax t a) := by
  have h : ¬ t ≤ a := fun h => hq (by rw [show t = a by omega])
  unfold tmax totF
  rw [if_neg h, if_neg hq]

set_option maxRecDepth 100000 in
theorem Total_no (k l v b a n t : Int) (sa ha : Option Addr) (sn sc hn hc : Nat) (w : World) (h : ¬ MayG k l v b a n sn hn) :
    Calls Try.prog 15 #[.agg #[.int .i64 k, .int .i64 l, .int .i64 v, .int .i64 b], .agg #[.int .i64 a, .int .i64 n, .slice sa sn sc, .slice ha hn hc], .int .i64 t] w fun e w' => e = .returned (.int .i64 0) ∧ Below w.heap.size w w' := by
  have MK := Lib.hid (fun u => May_no k l v b a n sa ha sn sc hn hc u h)
  have HP := Lib.hid (PC.made w k l v b a n (.slice sa sn sc) (.slice ha hn hc) 23 27)
  clear h
  go_enter Try.func15, Try.ntmps15
  go_wp2_with fail
  refine (MK.out _).mono ?_; rintro e w1 ⟨rfl, hb⟩
  have HQ := Lib.hid (HP.out.step hb)
  clear hb
  go_wp2_with fail
  go_ret
  exact ⟨rfl, HQ.out.be⟩

set_option maxRecDepth 100000 in
theorem rTotal_no (k l v b a n t : Int) (sa ha : Option Addr) (sn sc hn hc : Nat) (w : World) (h : ¬ MayG k l v b a n sn hn) :
    Calls Try.prog 16 #[.agg #[.int .i64 k, .int .i64 l, .int .i64 v, .int .i64 b], .agg #[.int .i64 a, .int .i64 n, .slice sa sn sc, .slice ha hn hc], .int .i64 t] w fun e w' => e = .returned (.int .i64 0) ∧ Below w.heap.size w w' := by
  have MK := Lib.hid (fun u => rMay_no k l v b a n sa ha sn sc hn hc u h)
  have HP := Lib.hid (PC.made w k l v b a n (.slice sa sn sc) (.slice ha hn hc) 23 27)
  clear h
  go_enter Try.func16, Try.ntmps16
  go_wp2_with fail
  refine (MK.out _).mono ?_; rintro e w1 ⟨rfl, hb⟩
  have HQ := Lib.hid (HP.out.step hb)
  clear hb
  go_wp2_with fail
  go_ret
  exact ⟨rfl, HQ.out.be⟩

set_option maxRecDepth 100000 in
theorem Ends_no (k l v b a n : Int) (sa ha : Option Addr) (sn sc hn hc : Nat) (w : World) (h : ¬ MayG k l v b a n sn hn) :
    Calls Try.prog 17 #[.agg #[.int .i64 k, .int .i64 l, .int .i64 v, .int .i64 b], .agg #[.int .i64 a, .int .i64 n, .slice sa sn sc, .slice ha hn hc]] w fun e w' => e = .returned (.int .i64 0) ∧ Below w.heap.size w w' := by
  have MK := Lib.hid (fun u => May_no k l v b a n sa ha sn sc hn hc u h)
  have HP := Lib.hid (PC.made w k l v b a n (.slice sa sn sc) (.slice ha hn hc) 23 27)
  clear h
  go_enter Try.func17, Try.ntmps17
  go_wp2_with fail
  refine (MK.out _).mono ?_; rintro e w1 ⟨rfl, hb⟩
  have HQ := Lib.hid (HP.out.step hb)
  clear hb
  go_wp2_with fail
  go_ret
  exact ⟨rfl, HQ.out.be⟩

set_option maxRecDepth 100000 in
theorem rEnds_no (k l v b a n : Int) (sa ha : Option Addr) (sn sc hn hc : Nat) (w : World) (h : ¬ MayG k l v b a n sn hn) :
    Calls Try.prog 18 #[.agg #[.int .i64 k, .int .i64 l, .int .i64 v, .int .i64 b], .agg #[.int .i64 a, .int .i64 n, .slice sa sn sc, .slice ha hn hc]] w fun e w' => e = .returned (.int .i64 0) ∧ Below w.heap.size w w' := by
  have MK := Lib.hid (fun u => rMay_no k l v b a n sa ha sn sc hn hc u h)
  have HP := Lib.hid (PC.made w k l v b a n (.slice sa sn sc) (.slice ha hn hc) 23 27)
  clear h
  go_enter Try.func18, Try.ntmps18
  go_wp2_with fail
  refine (MK.out _).mono ?_; rintro e w1 ⟨rfl, hb⟩
  have HQ := Lib.hid (HP.out.step hb)
  clear hb
  go_wp2_with fail
  go_ret
  exact ⟨rfl, HQ.out.be⟩

set_option maxRecDepth 100000 in
theorem Total_t (k l v b a n t : Int) (sa ha : Option Addr) (sn sc hn hc : Nat) (w : World) (h : MayG k l v b a n sn hn) (ht : ¬ (0 ≤ t ∧ t ≤ 1099511627776)) :
    Calls Try.prog 15 #[.agg #[.int .i64 k, .int .i64 l, .int .i64 v, .int .i64 b], .agg #[.int .i64 a, .int .i64 n, .slice sa sn sc, .slice ha hn hc], .int .i64 t] w fun e w' => e = .returned (.int .i64 0) ∧ Below w.heap.size w w' := by
  have MK := Lib.hid (fun u => May_yes k l v b a n sa ha sn sc hn hc u h)
  have TK := Lib.hid (fun u => isTick_no t u ht)
  have HP := Lib.hid (PC.made w k l v b a n (.slice sa sn sc) (.slice ha hn hc) 23 27)
  obtain ⟨l1, l2, v1, v2⟩ := h.1.lv
  obtain ⟨hp, hk, ⟨ha1, ha2⟩, hn1, hn2, hs, hh⟩ := h
  clear hp hk hs hh
  go_enter Try.func15, Try.ntmps15
  go_wp2_with fail
  refine (MK.out _).mono ?_; rintro e w1 ⟨rfl, hb⟩
  have hp := HP.out.step hb
  have z0 := hp.p0
  have z4 := hp.c0
  have z1 := hp.p1
  have z5 := hp.c1
  have z2 := hp.p2
  have z6 := hp.c2
  have z3 := hp.p3
  have z7 := hp.c3
  have HQ := Lib.hid hp
  clear hp hb HP MK
  go_wp2_with fail
  refine (TK.out _).mono ?_; rintro e w' ⟨rfl, rfl⟩
  go_wp2_with fail
  go_ret
  exact ⟨rfl, HQ.out.be⟩

set_option maxRecDepth 100000 in
theorem rTotal_t (k l v b a n t : Int) (sa ha : Option Addr) (sn sc hn hc : Nat) (w : World) (h : MayG k l v b a n sn hn) (ht : ¬ (0 ≤ t ∧ t ≤ 1099511627776)) :
    Calls Try.prog 16 #[.agg #[.int .i64 k, .int .i64 l, .int .i64 v, .int .i64 b], .agg #[.int .i64 a, .int .i64 n, .slice sa sn sc, .slice ha hn hc], .int .i64 t] w fun e w' => e = .returned (.int .i64 0) ∧ Below w.heap.size w w' := by
  have MK := Lib.hid (fun u => rMay_yes k l v b a n sa ha sn sc hn hc u h)
  have TK := Lib.hid (fun u => rTime_no t u ht)
  have HP := Lib.hid (PC.made w k l v b a n (.slice sa sn sc) (.slice ha hn hc) 23 27)
  obtain ⟨l1, l2, v1, v2⟩ := h.1.lv
  obtain ⟨hp, hk, ⟨ha1, ha2⟩, hn1, hn2, hs, hh⟩ := h
  clear hp hk hs hh
  go_enter Try.func16, Try.ntmps16
  go_wp2_with fail
  refine (MK.out _).mono ?_; rintro e w1 ⟨rfl, hb⟩
  have hp := HP.out.step hb
  have z0 := hp.p0
  have z4 := hp.c0
  have z1 := hp.p1
  have z5 := hp.c1
  have z2 := hp.p2
  have z6 := hp.c2
  have z3 := hp.p3
  have z7 := hp.c3
  have HQ := Lib.hid hp
  clear hp hb HP MK
  go_wp2_with fail
  refine (TK.out _).mono ?_; rintro e w' ⟨rfl, rfl⟩
  go_wp2_with fail
  go_ret
  exact ⟨rfl, HQ.out.be⟩

set_option maxRecDepth 100000 in
theorem Total_lo (k l v b a n t : Int) (sa ha : Option Addr) (sn sc hn hc : Nat) (w : World) (h : MayG k l v b a n sn hn) (t1 : 0 ≤ t) (t2 : t ≤ 1099511627776) (hle : t < a) :
    Calls Try.prog 15 #[.agg #[.int .i64 k, .int .i64 l, .int .i64 v, .int .i64 b], .agg #[.int .i64 a, .int .i64 n, .slice sa sn sc, .slice ha hn hc], .int .i64 t] w fun e w' => e = .returned (.int .i64 (totF v a n (tmax t a))) ∧ Below w.heap.size w w' := by
  have MK := Lib.hid (fun u => May_yes k l v b a n sa ha sn sc hn hc u h)
  have TK := Lib.hid (fun u => isTick_yes t u t1 t2)
  have HP := Lib.hid (PC.made w k l v b a n (.slice sa sn sc) (.slice ha hn hc) 23 27)
  obtain ⟨l1, l2, v1, v2⟩ := h.1.lv
  obtain ⟨hp, hk, ⟨ha1, ha2⟩, hn1, hn2, hs, hh⟩ := h
  have tb : a ≤ tmax t a ∧ tmax t a ≤ 1099511627776 := by unfold tmax; split <;> omega
  have LV := Lib.hid (fun u => total_any k l v b a n (tmax t a) sa ha sn sc hn hc u ha1 tb.1 tb.2 v1 v2)
  obtain ⟨r, hr⟩ : ∃ r, totF v a n (tmax t a) = r := ⟨_, rfl⟩
  rw [hr] at LV ⊢
  have tm : tmax t a = a := by unfold tmax; split <;> omega
  rw [tm] at LV
  clear hr tm tb
  clear hp hk hs hh
  go_enter Try.func15, Try.ntmps15
  go_wp2_with fail
  refine (MK.out _).mono ?_; rintro e w1 ⟨rfl, hb⟩
  have hp := HP.out.step hb
  have z0 := hp.p0
  have z4 := hp.c0
  have z1 := hp.p1
  have z5 := hp.c1
  have z2 := hp.p2
  have z6 := hp.c2
  have z3 := hp.p3
  have z7 := hp.c3
  have HQ := Lib.hid hp
  clear hp hb HP MK
  go_wp2_with fail
  refine (TK.out _).mono ?_; rintro e w' ⟨rfl, rfl⟩
  go_wp2_with fail
  refine (LV.out _).mono ?_; rintro e w2 ⟨rfl, hb⟩
  have HR := Lib.hid (HQ.out.step hb)
  clear hb
  go_wp2_with fail
  go_ret
  exact ⟨rfl, HR.out.be⟩

set_option maxRecDepth 100000 in
theorem Total_hi (k l v b a n t : Int) (sa ha : Option Addr) (sn sc hn hc : Nat) (w : World) (h : MayG k l v b a n sn hn) (t1 : 0 ≤ t) (t2 : t ≤ 1099511627776) (hle : a ≤ t) :
    Calls Try.prog 15 #[.agg #[.int .i64 k, .int .i64 l, .int .i64 v, .int .i64 b], .agg #[.int .i64 a, .int .i64 n, .slice sa sn sc, .slice ha hn hc], .int .i64 t] w fun e w' => e = .returned (.int .i64 (totF v a n (tmax t a))) ∧ Below w.heap.size w w' := by
  have MK := Lib.hid (fun u => May_yes k l v b a n sa ha sn sc hn hc u h)
  have TK := Lib.hid (fun u => isTick_yes t u t1 t2)
  have HP := Lib.hid (PC.made w k l v b a n (.slice sa sn sc) (.slice ha hn hc) 23 27)
  obtain ⟨l1, l2, v1, v2⟩ := h.1.lv
  obtain ⟨hp, hk, ⟨ha1, ha2⟩, hn1, hn2, hs, hh⟩ := h
  have tb : a ≤ tmax t a ∧ tmax t a ≤ 1099511627776 := by unfold tmax; split <;> omega
  have LV := Lib.hid (fun u => total_any k l v b a n (tmax t a) sa ha sn sc hn hc u ha1 tb.1 tb.2 v1 v2)
  obtain ⟨r, hr⟩ : ∃ r, totF v a n (tmax t a) = r := ⟨_, rfl⟩
  rw [hr] at LV ⊢
  have tm : tmax t a = t := by unfold tmax; split <;> omega
  rw [tm] at LV
  clear hr tm tb
  clear hp hk hs hh
  go_enter Try.func15, Try.ntmps15
  go_wp2_with fail
  refine (MK.out _).mono ?_; rintro e w1 ⟨rfl, hb⟩
  have hp := HP.out.step hb
  have z0 := hp.p0
  have z4 := hp.c0
  have z1 := hp.p1
  have z5 := hp.c1
  have z2 := hp.p2
  have z6 := hp.c2
  have z3 := hp.p3
  have z7 := hp.c3
  have HQ := Lib.hid hp
  clear hp hb HP MK
  go_wp2_with fail
  refine (TK.out _).mono ?_; rintro e w' ⟨rfl, rfl⟩
  go_wp2_with fail
  refine (LV.out _).mono ?_; rintro e w2 ⟨rfl, hb⟩
  have HR := Lib.hid (HQ.out.step hb)
  clear hb
  go_wp2_with fail
  go_ret
  exact ⟨rfl, HR.out.be⟩

set_option maxRecDepth 100000 in
theorem rTotal_lo (k l v b a n t : Int) (sa ha : Option Addr) (sn sc hn hc : Nat) (w : World) (h : MayG k l v b a n sn hn) (t1 : 0 ≤ t) (t2 : t ≤ 1099511627776) (hle : t < a) :
    Calls Try.prog 16 #[.agg #[.int .i64 k, .int .i64 l, .int .i64 v, .int .i64 b], .agg #[.int .i64 a, .int .i64 n, .slice sa sn sc, .slice ha hn hc], .int .i64 t] w fun e w' => e = .returned (.int .i64 (totF v a n (tmax t a))) ∧ Below w.heap.size w w' := by
  have MK := Lib.hid (fun u => rMay_yes k l v b a n sa ha sn sc hn hc u h)
  have TK := Lib.hid (fun u => rTime_yes t u t1 t2)
  have HP := Lib.hid (PC.made w k l v b a n (.slice sa sn sc) (.slice ha hn hc) 23 27)
  obtain ⟨l1, l2, v1, v2⟩ := h.1.lv
  obtain ⟨hp, hk, ⟨ha1, ha2⟩, hn1, hn2, hs, hh⟩ := h
  have E := Lib.hid (show n = totF v a n (tmax t a) by unfold tmax; rw [if_pos (by omega), totF_at])
  have d1 : decide (t < a) = true := by simp; omega
  clear hp hk hs hh
  go_enter Try.func16, Try.ntmps16
  go_wp2_with fail
  refine (MK.out _).mono ?_; rintro e w1 ⟨rfl, hb⟩
  have hp := HP.out.step hb
  have z0 := hp.p0
  have z4 := hp.c0
  have z1 := hp.p1
  have z5 := hp.c1
  have z2 := hp.p2
  have z6 := hp.c2
  have z3 := hp.p3
  have z7 := hp.c3
  have HQ := Lib.hid hp
  clear hp hb HP MK
  go_wp2_with fail
  refine (TK.out _).mono ?_; rintro e w' ⟨rfl, rfl⟩
  go_wp2_with fail
  go_quiet (fail)
  go_wp2_with fail
  go_ret
  exact ⟨ret_int E.out, (HQ.out.drewN _).be⟩

set_option maxRecDepth 100000 in
theorem rTotal_eq (k l v b a n t : Int) (sa ha : Option Addr) (sn sc hn hc : Nat) (w : World) (h : MayG k l v b a n sn hn) (t1 : 0 ≤ t) (t2 : t ≤ 1099511627776) (hle : a ≤ t) (hq : t / v = a / v) :
    Calls Try.prog 16 #[.agg #[.int .i64 k, .int .i64 l, .int .i64 v, .int .i64 b], .agg #[.int .i64 a, .int .i64 n, .slice sa sn sc, .slice ha hn hc], .int .i64 t] w fun e w' => e = .returned (.int .i64 (totF v a n (tmax t a))) ∧ Below w.heap.size w w' := by
  have MK := Lib.hid (fun u => rMay_yes k l v b a n sa ha sn sc hn hc u h)
  have TK := Lib.hid (fun u => rTime_yes t u t1 t2)
  have HP := Lib.hid (PC.made w k l v b a n (.slice sa sn sc) (.slice ha hn hc) 23 27)
  obtain ⟨l1, l2, v1, v2⟩ := h.1.lv
  obtain ⟨hp, hk, ⟨ha1, ha2⟩, hn1, hn2, hs, hh⟩ := h
  have E := Lib.hid (show n = totF v a n (tmax t a) by unfold tmax; split; rw [totF_at]; unfold totF; rw [if_pos hq])
  have d1 : decide (t < a) = false := by simp; omega
  have hz : (v == 0) = false := by simp; omega
  have e1 : IntKind.i64.wrap (t / v) = t / v := by obtain ⟨q0, q1, _⟩ := win_bd t1 v1; exact wrap_i (by omega) (by omega)
  have e2 : IntKind.i64.wrap (a / v) = a / v := by obtain ⟨q0, q1, _⟩ := win_bd ha1 v1; exact wrap_i (by omega) (by omega)
  have e3 : t.tdiv v = t / v := tdiv_i t1
  have e4 : a.tdiv v = a / v := tdiv_i ha1
  have d2 : (t / v == a / v) = true := by simp [hq]
  clear hq
  clear hp hk hs hh
  go_enter Try.func16, Try.ntmps16
  go_wp2_with fail
  refine (MK.out _).mono ?_; rintro e w1 ⟨rfl, hb⟩
  have hp := HP.out.step hb
  have z0 := hp.p0
  have z4 := hp.c0
  have z1 := hp.p1
  have z5 := hp.c1
  have z2 := hp.p2
  have z6 := hp.c2
  have z3 := hp.p3
  have z7 := hp.c3
  have HQ := Lib.hid hp
  clear hp hb HP MK
  go_wp2_with fail
  refine (TK.out _).mono ?_; rintro e w' ⟨rfl, rfl⟩
  go_wp2_with fail
  go_quiet (fail)
  go_wp2_with fail
  go_ret
  exact ⟨ret_int E.out, (HQ.out.drewN _).be⟩

set_option maxRecDepth 100000 in
theorem rTotal_ne (k l v b a n t : Int) (sa ha : Option Addr) (sn sc hn hc : Nat) (w : World) (h : MayG k l v b a n sn hn) (t1 : 0 ≤ t) (t2 : t ≤ 1099511627776) (hle : a ≤ t) (hq : ¬ t / v = a / v) :
    Calls Try.prog 16 #[.agg #[.int .i64 k, .int .i64 l, .int .i64 v, .int .i64 b], .agg #[.int .i64 a, .int .i64 n, .slice sa sn sc, .slice ha hn hc], .int .i64 t] w fun e w' => e = .returned (.int .i64 (totF v a n (tmax t a))) ∧ Below w.heap.size w w' := by
  have MK := Lib.hid (fun u => rMay_yes k l v b a n sa ha sn sc hn hc u h)
  have TK := Lib.hid (fun u => rTime_yes t u t1 t2)
  have HP := Lib.hid (PC.made w k l v b a n (.slice sa sn sc) (.slice ha hn hc) 23 27)
  obtain ⟨l1, l2, v1, v2⟩ := h.1.lv
  obtain ⟨hp, hk, ⟨ha1, ha2⟩, hn1, hn2, hs, hh⟩ := h
  have E := Lib.hid (totF_ne (n := n) hle hq)
  have d1 : decide (t < a) = false := by simp; omega
  have hz : (v == 0) = false := by simp; omega
  have e1 : IntKind.i64.wrap (t / v) = t / v := by obtain ⟨q0, q1, _⟩ := win_bd t1 v1; exact wrap_i (by omega) (by omega)
  have e2 : IntKind.i64.wrap (a / v) = a / v := by obtain ⟨q0, q1, _⟩ := win_bd ha1 v1; exact wrap_i (by omega) (by omega)
  have e3 : t.tdiv v = t / v := tdiv_i t1
  have e4 : a.tdiv v = a / v := tdiv_i ha1
  have d2 : (t / v == a / v) = false := by simp [hq]
  clear hq
  clear hp hk hs hh
  go_enter Try.func16, Try.ntmps16
  go_wp2_with fail
  refine (MK.out _).mono ?_; rintro e w1 ⟨rfl, hb⟩
  have hp := HP.out.step hb
  have z0 := hp.p0
  have z4 := hp.c0
  have z1 := hp.p1
  have z5 := hp.c1
  have z2 := hp.p2
  have z6 := hp.c2
  have z3 := hp.p3
  have z7 := hp.c3
  have HQ := Lib.hid hp
  clear hp hb HP MK
  go_wp2_with fail
  refine (TK.out _).mono ?_; rintro e w' ⟨rfl, rfl⟩
  go_wp2_with fail
  go_quiet (fail)
  go_wp2_with fail
  go_ret
  exact ⟨ret_int E.out, (HQ.out.drewN _).be⟩

theorem Total_yes (k l v b a n t : Int) (sa ha : Option Addr) (sn sc hn hc : Nat) (w : World) (h : MayG k l v b a n sn hn) (t1 : 0 ≤ t) (t2 : t ≤ 1099511627776) :
    Calls Try.prog 15 #[.agg #[.int .i64 k, .int .i64 l, .int .i64 v, .int .i64 b], .agg #[.int .i64 a, .int .i64 n, .slice sa sn sc, .slice ha hn hc], .int .i64 t] w fun e w' => e = .returned (.int .i64 (totF v a n (tmax t a))) ∧ Below w.heap.size w w' := by
  by_cases hle : t < a
  · exact Total_lo k l v b a n t sa ha sn sc hn hc w h t1 t2 hle
  · exact Total_hi k l v b a n t sa ha sn sc hn hc w h t1 t2 (by omega)
theorem rTotal_yes (k l v b a n t : Int) (sa ha : Option Addr) (sn sc hn hc : Nat) (w : World) (h : MayG k l v b a n sn hn) (t1 : 0 ≤ t) (t2 : t ≤ 1099511627776) :
    Calls Try.prog 16 #[.agg #[.int .i64 k, .int .i64 l, .int .i64 v, .int .i64 b], .agg #[.int .i64 a, .int .i64 n, .slice sa sn sc, .slice ha hn hc], .int .i64 t] w fun e w' => e = .returned (.int .i64 (totF v a n (tmax t a))) ∧ Below w.heap.size w w' := by
  by_cases hle : t < a
  · exact rTotal_lo k l v b a n t sa ha sn sc hn hc w h t1 t2 hle
  · by_cases hq : t / v = a / v
    · exact rTotal_eq k l v b a n t sa ha sn sc hn hc w h t1 t2 (by omega) hq
    · exact rTotal_ne k l v b a n t sa ha sn sc hn hc w h t1 t2 (by omega) hq

set_option maxRecDepth 100000 in
theorem Ends_yes (k l v b a n : Int) (sa ha : Option Addr) (sn sc hn hc : Nat) (w : World) (h : MayG k l v b a n sn hn)  :
    Calls Try.prog 17 #[.agg #[.int .i64 k, .int .i64 l, .int .i64 v, .int .i64 b], .agg #[.int .i64 a, .int .i64 n, .slice sa sn sc, .slice ha hn hc]] w fun e w' => e = .returned (.int .i64 (endF v a n)) ∧ Below w.heap.size w w' := by
  have MK := Lib.hid (fun u => May_yes k l v b a n sa ha sn sc hn hc u h)
  have HP := Lib.hid (PC.made w k l v b a n (.slice sa sn sc) (.slice ha hn hc) 23 27)
  obtain ⟨l1, l2, v1, v2⟩ := h.1.lv
  obtain ⟨hp, hk, ⟨ha1, ha2⟩, hn1, hn2, hs, hh⟩ := h
  have LV := Lib.hid (fun u => ends_any k l v b a n sa ha sn sc hn hc u ha1 ha2 v1 v2)
  clear hp hk hs hh
  go_enter Try.func17, Try.ntmps17
  go_wp2_with fail
  refine (MK.out _).mono ?_; rintro e w1 ⟨rfl, hb⟩
  have hp := HP.out.step hb
  have z0 := hp.p0
  have z4 := hp.c0
  have z1 := hp.p1
  have z5 := hp.c1
  have z2 := hp.p2
  have z6 := hp.c2
  have z3 := hp.p3
  have z7 := hp.c3
  have HQ := Lib.hid hp
  clear hp hb HP MK
  go_wp2_with fail
  refine (LV.out _).mono ?_; rintro e w2 ⟨rfl, hb⟩
  have HR := Lib.hid (HQ.out.step hb)
  clear hb
  go_wp2_with fail
  go_ret
  exact ⟨rfl, HR.out.be⟩

set_option maxRecDepth 100000 in
theorem rEnds_0 (k l v b a n : Int) (sa ha : Option Addr) (sn sc hn hc : Nat) (w : World) (h : MayG k l v b a n sn hn) (hz : n = 0) :
    Calls Try.prog 18 #[.agg #[.int .i64 k, .int .i64 l, .int .i64 v, .int .i64 b], .agg #[.int .i64 a, .int .i64 n, .slice sa sn sc, .slice ha hn hc]] w fun e w' => e = .returned (.int .i64 (endF v a n)) ∧ Below w.heap.size w w' := by
  have MK := Lib.hid (fun u => rMay_yes k l v b a n sa ha sn sc hn hc u h)
  have HP := Lib.hid (PC.made w k l v b a n (.slice sa sn sc) (.slice ha hn hc) 23 27)
  obtain ⟨l1, l2, v1, v2⟩ := h.1.lv
  obtain ⟨hp, hk, ⟨ha1, ha2⟩, hn1, hn2, hs, hh⟩ := h
  have E := Lib.hid (show a = endF v a n from (if_pos hz).symm)
  have nz : (n == 0) = true := by simp [hz]
  clear hz
  clear hp hk hs hh
  go_enter Try.func18, Try.ntmps18
  go_wp2_with fail
  refine (MK.out _).mono ?_; rintro e w1 ⟨rfl, hb⟩
  have hp := HP.out.step hb
  have z0 := hp.p0
  have z4 := hp.c0
  have z1 := hp.p1
  have z5 := hp.c1
  have z2 := hp.p2
  have z6 := hp.c2
  have z3 := hp.p3
  have z7 := hp.c3
  have HQ := Lib.hid hp
  clear hp hb HP MK
  go_wp2_with fail
  go_ret
  exact ⟨ret_int E.out, HQ.out.be⟩

set_option maxRecDepth 100000 in
theorem rEnds_1 (k l v b a n : Int) (sa ha : Option Addr) (sn sc hn hc : Nat) (w : World) (h : MayG k l v b a n sn hn) (hz : ¬ n = 0) :
    Calls Try.prog 18 #[.agg #[.int .i64 k, .int .i64 l, .int .i64 v, .int .i64 b], .agg #[.int .i64 a, .int .i64 n, .slice sa sn sc, .slice ha hn hc]] w fun e w' => e = .returned (.int .i64 (endF v a n)) ∧ Below w.heap.size w w' := by
  have MK := Lib.hid (fun u => rMay_yes k l v b a n sa ha sn sc hn hc u h)
  have HP := Lib.hid (PC.made w k l v b a n (.slice sa sn sc) (.slice ha hn hc) 23 27)
  obtain ⟨l1, l2, v1, v2⟩ := h.1.lv
  obtain ⟨hp, hk, ⟨ha1, ha2⟩, hn1, hn2, hs, hh⟩ := h
  have E := Lib.hid (show v * (a / v + 1) = endF v a n by unfold endF; rw [if_neg hz, nextF_eq])
  have nz : (n == 0) = false := by simp [hz]
  obtain ⟨q0, q1, q2, q3, q4⟩ := win_bd ha1 v1
  have q5 : v * (a / v + 1) = a / v * v + v := nextF_eq v a
  have e0 : IntKind.i64.wrap (a / v + 1) = a / v + 1 := wrap_i (by omega) (by omega)
  have e1 : IntKind.i64.wrap (v * (a / v + 1)) = v * (a / v + 1) := wrap_i (by omega) (by omega)
  have e2 : IntKind.i64.wrap (a / v) = a / v := wrap_i (by omega) (by omega)
  have e4 : a.tdiv v = a / v := tdiv_i ha1
  have vz : (v == 0) = false := by simp; omega
  clear hz q5
  clear hp hk hs hh
  go_enter Try.func18, Try.ntmps18
  go_wp2_with fail
  refine (MK.out _).mono ?_; rintro e w1 ⟨rfl, hb⟩
  have hp := HP.out.step hb
  have z0 := hp.p0
  have z4 := hp.c0
  have z1 := hp.p1
  have z5 := hp.c1
  have z2 := hp.p2
  have z6 := hp.c2
  have z3 := hp.p3
  have z7 := hp.c3
  have HQ := Lib.hid hp
  clear hp hb HP MK
  go_wp2_with fail
  go_quiet (fail)
  go_wp2_with fail
  go_ret
  exact ⟨ret_int E.out, (HQ.out.drewN _).be⟩

theorem rEnds_yes (k l v b a n : Int) (sa ha : Option Addr) (sn sc hn hc : Nat) (w : World) (h : MayG k l v b a n sn hn) :
    Calls Try.prog 18 #[.agg #[.int .i64 k, .int .i64 l, .int .i64 v, .int .i64 b], .agg #[.int .i64 a, .int .i64 n, .slice sa sn sc, .slice ha hn hc]] w fun e w' => e = .returned (.int .i64 (endF v a n)) ∧ Below w.heap.size w w' := by
  by_cases hz : n = 0
  · exact rEnds_0 k l v b a n sa ha sn sc hn hc w h hz
  · exact rEnds_1 k l v b a n sa ha sn sc hn hc w h hz
end Go.Proofs.Ytdmephlappmmdab
