/- How long the document waits till no more than so much counts of hits. WRITTEN BY gen_ex3.py. -/
import Derived.Test.YtgdcgilhaedbmaaEx2
import Derived.Deep.RegionHeld3
-- prune
namespace Go.Proofs.Ytgdcgilhaedbmaa
open Go.ChangeShapes Go.WideShapes Go.ChangeAt Go.RowKit
set_option linter.unusedVariables false

/-- When the first hit from the q-th on, of at most r, goes behind which no more than so much counts; a time t is taken off it. -/
def wloopE (v : Int) (f g : Nat → Int) (n : Nat) (t most : Int) : Nat → Nat → Int
  | _, 0 => 0
  | q, r + 1 => if cntE v f g n (f q + v) ≤ most ∧ t < f q + v then f q + v - t else wloopE v f g n t most (q + 1) r
def waitE (v : Int) (f g : Nat → Int) (n : Nat) (t most : Int) : Int := if cntE v f g n t ≤ most then 0 else wloopE v f g n t most 0 n
set_option maxRecDepth 100000 in
set_option maxHeartbeats 4000000 in
theorem wait_any (k l v b t most : Int) (A : Option Addr) (n c : Nat) (f g : Nat → Int) (w : World) (hh : HitsAt w A n f g) (hf : ∀ i, i < n → 0 ≤ f i ∧ f i ≤ 1099511627776) (hg : ∀ i, i < n → 0 ≤ g i ∧ g i ≤ 1048576) (hn : n ≤ 64) (t1 : 0 ≤ t) (t2 : t ≤ 1099511627776) (v1 : 1 ≤ v) (v2 : v ≤ 1048576) :
    Calls Try.prog 30 #[.agg #[.int .i64 k, .int .i64 l, .int .i64 v, .int .i64 b], .slice A n c, .int .i64 t, .int .i64 most] w fun e w' => e = .returned (.int .i64 (waitE v f g n t most)) ∧ Below w.heap.size w w' := by
  have HH := Lib.hid hh
  have HF := Lib.hid hf
  have C0 := Lib.hid (fun u (hu : Below w.heap.size w u) => counts_any k l v b t A n c f g u (hh.below hu) hg hn t1 (by omega) v1 v2)
  have CI := Lib.hid (fun x (x0 : 0 ≤ x) (x1 : x ≤ 1099511627776) u (hu : Below w.heap.size w u) => counts_any k l v b (x + v) A n c f g u (hh.below hu) hg hn (by omega) (by omega) v1 v2)
  have HP := Lib.hid (PB.made w k l v b)
  have HW := Lib.hid (show waitE v f g n t most = if cntE v f g n t ≤ most then 0 else wloopE v f g n t most 0 n from rfl)
  generalize waitE v f g n t most = RES at *
  clear hh hf hg
  by_cases h0 : cntE v f g n t ≤ most
  · have E := Lib.hid (show (0 : Int) = RES by rw [HW.out, if_pos h0])
    clear HW
    generalize cntE v f g n t = c0 at *
    go_enter Try.func30, Try.ntmps30
    go_wp2_with fail
    refine (C0.out _ HP.out.be).mono ?_; rintro e w1 ⟨rfl, hb⟩
    have H1 := Lib.hid (HP.out.step hb)
    clear hb
    go_wp2_with fail
    go_ret
    exact ⟨ret_int E.out, H1.out.be⟩
  · have E := Lib.hid (show wloopE v f g n t most 0 n = RES by rw [HW.out, if_neg h0])
    clear HW
    generalize cntE v f g n t = c0 at h0 C0
    go_enter Try.func30, Try.ntmps30
    go_wp2_with fail
    refine (C0.out _ HP.out.be).mono ?_; rintro e w1 ⟨rfl, hb⟩
    have H1 := Lib.hid (HP.out.step hb)
    clear hb HP
    go_wp2_with fail
    go_loopw [9] (fun vi wr => ∃ i : Nat, i ≤ n ∧ vi = .int .i64 (i : Int) ∧ Hid (wloopE v f g n t most i (n - i) = RES) ∧ PB w k l v b wr) (fun vi _ => n - (intOf vi).toNat)
    case atStart => exact ⟨0, Nat.zero_le _, rfl, E, H1.out⟩
    case round =>
      obtain ⟨i, hi, rfl, HK, hr⟩ := hrel
      have R1 := Lib.hid hr
      clear hr H1
      by_cases hlt : i < n
      · obtain ⟨b1, o1, rfl, hl, hc'⟩ := HH.out (by omega)
        obtain ⟨y1, y2⟩ := HF.out i hlt
        have X1 := Lib.hid (hc' i hlt).1
        have X2 := Lib.hid (hc' i hlt).2
        have CX := Lib.hid (CI.out (f i) y1 y2)
        have K1 := Lib.hid (fun (q : cntE v f g n (f i + v) ≤ most ∧ t < f i + v) => (show f i + v - t = RES by rw [← HK.out, show n - i = (n - i - 1) + 1 by omega, wloopE, if_pos q]))
        have K2 := Lib.hid (fun (q : ¬ (cntE v f g n (f i + v) ≤ most ∧ t < f i + v)) => (show wloopE v f g n t most (i + 1) (n - (i + 1)) = RES by rw [← HK.out, show n - i = (n - (i + 1)) + 1 by omega, wloopE, if_neg q]))
        clear hc'
        generalize hcn : cntE v f g n (f i + v) = cn at *
        clear hcn
        generalize f i = y at *
        generalize g i = x at *
        have B0 : (0 : Int) ≤ (i : Int) := by omega
        have B1 : (i : Int) < (n : Int) := by omega
        have e1 : IntKind.i64.wrap (y + v) = y + v := wrap_i (by omega) (by omega)
        have e2 : IntKind.i64.wrap (y + v - t) = y + v - t := wrap_i (by omega) (by omega)
        by_cases hc1 : cn ≤ most
        · have dc : decide (cn ≤ most) = true := by simp; omega
          by_cases hc2 : t < y + v
          · have KR := Lib.hid (K1.out ⟨hc1, hc2⟩)
            have dt : decide (t < y + v) = true := by simp; omega
            clear K1 K2
            go_upto_region 6 with (fail)
            go_region_held3 (fun w' => w'.cell? ⟨w.heap.size, 0, none⟩ = some (.int .i64 k) ∧ w'.cell? ⟨w.heap.size, 1, none⟩ = some (.int .i64 l) ∧ w'.cell? ⟨w.heap.size, 2, none⟩ = some (.int .i64 v) ∧ w'.cell? ⟨w.heap.size, 3, none⟩ = some (.int .i64 b) ∧ w'.cell? ⟨b1, o1 + i * 2, none⟩ = some (.int .i64 y) ∧ w'.cell? ⟨b1, o1 + i * 2 + 1, none⟩ = some (.int .i64 x)) (first | (with_reducible exact R1.out.six hl X1.out X2.out) | (with_reducible exact R1.out.drew.six hl X1.out X2.out) | (with_reducible exact R2.out.six hl X1.out X2.out) | go_keep) (first | (go_at_call 29; (with_reducible refine (CX.out _ R1.out.drew.be).mono ?_); rintro e w2 ⟨rfl, hb⟩; have R2 := Lib.hid (R1.out.drew.step hb); clear hb))
            all_goals
              obtain ⟨z0, z1, z2, z3, z4, z5⟩ := R2.out.six hl X1.out X2.out
              go_wp2_with fail
              go_quiet (fail)
              go_wp2_with fail
              go_ret
              exact ⟨ret_int KR.out, (R2.out.drewN nq).be⟩
          · have KN := Lib.hid (K2.out (fun q => hc2 q.2))
            have dt : decide (t < y + v) = false := by simp; omega
            clear K1 K2
            go_upto_region 6 with (fail)
            go_region_held3 (fun w' => w'.cell? ⟨w.heap.size, 0, none⟩ = some (.int .i64 k) ∧ w'.cell? ⟨w.heap.size, 1, none⟩ = some (.int .i64 l) ∧ w'.cell? ⟨w.heap.size, 2, none⟩ = some (.int .i64 v) ∧ w'.cell? ⟨w.heap.size, 3, none⟩ = some (.int .i64 b) ∧ w'.cell? ⟨b1, o1 + i * 2, none⟩ = some (.int .i64 y) ∧ w'.cell? ⟨b1, o1 + i * 2 + 1, none⟩ = some (.int .i64 x)) (first | (with_reducible exact R1.out.six hl X1.out X2.out) | (with_reducible exact R1.out.drew.six hl X1.out X2.out) | (with_reducible exact R2.out.six hl X1.out X2.out) | go_keep) (first | (go_at_call 29; (with_reducible refine (CX.out _ R1.out.drew.be).mono ?_); rintro e w2 ⟨rfl, hb⟩; have R2 := Lib.hid (R1.out.drew.step hb); clear hb))
            all_goals
              go_wp2_with fail
              go_roundw
              case rel => exact ⟨i + 1, by omega, by go_num, KN, R2.out⟩
              case measure => simp [intOf]; omega
        · have KN := Lib.hid (K2.out (fun q => hc1 q.1))
          have dc : decide (cn ≤ most) = false := by simp; omega
          clear K1 K2
          go_upto_region 6 with (fail)
          refine wp_region_held_drew (S := (fun w' => w'.cell? ⟨w.heap.size, 0, none⟩ = some (.int .i64 k) ∧ w'.cell? ⟨w.heap.size, 1, none⟩ = some (.int .i64 l) ∧ w'.cell? ⟨w.heap.size, 2, none⟩ = some (.int .i64 v) ∧ w'.cell? ⟨w.heap.size, 3, none⟩ = some (.int .i64 b) ∧ w'.cell? ⟨b1, o1 + i * 2, none⟩ = some (.int .i64 y) ∧ w'.cell? ⟨b1, o1 + i * 2 + 1, none⟩ = some (.int .i64 x))) (by kernel_rfl) ?_ (fun hHeld => ?_)
          · exact R1.out.drew.six hl X1.out X2.out
          refine wpAnyH_take (i := 0) (oi := ⟨some 22, _, _, _, _, _⟩) (v := ?_) rfl (by kernel_rfl) (by kernel_rfl) (by kernel_rfl) (fun _ _ _ h => h) (Or.inl ⟨by rfl, ?_⟩) (by assumption) ?_
          rotate_left
          · (intro w hSw; (try dsimp only at hSw); go_simp) <;> with_reducible rfl
          try simp only [Act.put, List.setIfInBounds_toArray, List.set_cons_zero, List.set_cons_succ]
          refine wpAnyH_take (i := 1) (oi := ⟨some 23, _, _, _, _, _⟩) (v := ?_) rfl (by kernel_rfl) (by kernel_rfl) (by kernel_rfl) (fun _ _ _ h => h) (Or.inl ⟨by rfl, ?_⟩) (by assumption) ?_
          rotate_left
          · (intro w hSw; (try dsimp only at hSw); go_simp) <;> with_reducible rfl
          try simp only [Act.put, List.setIfInBounds_toArray, List.set_cons_zero, List.set_cons_succ]
          refine wpAnyH_take (i := 2) (oi := ⟨some 24, _, _, _, _, _⟩) (v := ?_) rfl (by kernel_rfl) (by kernel_rfl) (by kernel_rfl) (fun _ _ _ h => h) (Or.inl ⟨by rfl, ?_⟩) (by assumption) ?_
          rotate_left
          · (intro w hSw; (try dsimp only at hSw); go_simp) <;> with_reducible rfl
          try simp only [Act.put, List.setIfInBounds_toArray, List.set_cons_zero, List.set_cons_succ]
          refine wpAnyH_take (i := 3) (oi := ⟨some 25, _, _, _, _, _⟩) (v := ?_) rfl (by kernel_rfl) (by kernel_rfl) (by kernel_rfl) (fun _ _ _ h => h) (Or.inl ⟨by rfl, ?_⟩) (by assumption) ?_
          rotate_left
          · (intro w hSw; (try dsimp only at hSw); go_simp) <;> with_reducible rfl
          try simp only [Act.put, List.setIfInBounds_toArray, List.set_cons_zero, List.set_cons_succ]
          refine wpAnyH_take (i := 4) (oi := ⟨some 26, _, _, _, _, _⟩) (v := ?_) rfl (by kernel_rfl) (by kernel_rfl) (by kernel_rfl) (fun _ _ _ h => h) (Or.inl ⟨by rfl, ?_⟩) (by assumption) ?_
          rotate_left
          · (intro w hSw; (try dsimp only at hSw); go_simp) <;> with_reducible rfl
          try simp only [Act.put, List.setIfInBounds_toArray, List.set_cons_zero, List.set_cons_succ]
          refine wpAnyH_take (i := 5) (oi := ⟨some 27, _, _, _, _, _⟩) (v := ?_) rfl (by kernel_rfl) (by kernel_rfl) (by kernel_rfl) (fun _ _ _ h => h) (Or.inl ⟨by rfl, ?_⟩) (by assumption) ?_
          rotate_left
          · (intro w hSw; (try dsimp only at hSw); go_simp) <;> with_reducible rfl
          try simp only [Act.put, List.setIfInBounds_toArray, List.set_cons_zero, List.set_cons_succ]
          refine wpAnyH_take (i := 6) (oi := ⟨some 28, _, _, _, _, _⟩) (v := ?_) rfl (by kernel_rfl) (by kernel_rfl) (by kernel_rfl) (fun _ _ _ h => h) (Or.inl ⟨by rfl, ?_⟩) (by assumption) ?_
          rotate_left
          · (intro w hSw; (try dsimp only at hSw); go_simp) <;> with_reducible rfl
          try simp only [Act.put, List.setIfInBounds_toArray, List.set_cons_zero, List.set_cons_succ]
          refine wpAnyH_take (i := 7) (oi := ⟨some 29, _, _, _, _, _⟩) (v := ?_) rfl (by kernel_rfl) (by kernel_rfl) (by kernel_rfl) (fun _ _ _ h => h) (Or.inl ⟨by rfl, ?_⟩) (by assumption) ?_
          rotate_left
          · (intro w hSw; (try dsimp only at hSw); go_simp) <;> with_reducible rfl
          try simp only [Act.put, List.setIfInBounds_toArray, List.set_cons_zero, List.set_cons_succ]
          refine wpAnyH_take (i := 8) (oi := ⟨some 30, _, _, _, _, _⟩) (v := ?_) rfl (by kernel_rfl) (by kernel_rfl) (by kernel_rfl) (fun _ _ _ h => h) (Or.inl ⟨by rfl, ?_⟩) (by assumption) ?_
          rotate_left
          · (intro w hSw; (try dsimp only at hSw); go_simp) <;> with_reducible rfl
          try simp only [Act.put, List.setIfInBounds_toArray, List.set_cons_zero, List.set_cons_succ]
          refine wpAnyH_take (i := 9) (oi := ⟨some 31, _, _, _, _, _⟩) (v := ?_) rfl (by kernel_rfl) (by kernel_rfl) (by kernel_rfl) (fun _ _ _ h => h) (Or.inl ⟨by rfl, ?_⟩) (by assumption) ?_
          rotate_left
          · (intro w hSw; (try dsimp only at hSw); go_simp) <;> with_reducible rfl
          try simp only [Act.put, List.setIfInBounds_toArray, List.set_cons_zero, List.set_cons_succ]
          refine wpAnyH_take (i := 11) (oi := ⟨some 33, _, _, _, _, _⟩) (v := ?_) rfl (by kernel_rfl) (by kernel_rfl) (by kernel_rfl) (fun _ _ _ h => h) (Or.inl ⟨by rfl, ?_⟩) (by assumption) ?_
          rotate_left
          · (intro w hSw; (try dsimp only at hSw); go_simp) <;> with_reducible rfl
          try simp only [Act.put, List.setIfInBounds_toArray, List.set_cons_zero, List.set_cons_succ]
          refine wpAnyH_ready (rs := [10]) (by kernel_rfl) (by simp) ?_
          refine AllReadyH.cons (o := ⟨some 32, _, _, _, _, _⟩) rfl (fun K hK => ?_) AllReadyH.nil
          go_simp
          (go_at_call 29; (with_reducible refine (CX.out _ R1.out.drew.be).mono ?_); rintro e w2 ⟨rfl, hb⟩; have R2 := Lib.hid (R1.out.drew.step hb); clear hb)
          refine hK.out _ _ ?_ (fun hHeld => ?_)
          · exact R2.out.six hl X1.out X2.out
          clear hK K
          try simp only [Act.put, List.setIfInBounds_toArray, List.set_cons_zero, List.set_cons_succ]
          refine wpAnyH_take (i := 12) (oi := ⟨some 34, _, _, _, _, _⟩) (v := ?_) rfl (by kernel_rfl) (by kernel_rfl) (by kernel_rfl) (fun _ _ _ h => h) (Or.inl ⟨by rfl, ?_⟩) (by assumption) ?_
          rotate_left
          · (intro w hSw; (try dsimp only at hSw); go_simp) <;> with_reducible rfl
          try simp only [Act.put, List.setIfInBounds_toArray, List.set_cons_zero, List.set_cons_succ]
          refine wpAnyH_take (i := 13) (oi := ⟨some 35, _, _, _, _, _⟩) (v := ?_) rfl (by kernel_rfl) (by kernel_rfl) (by kernel_rfl) (fun _ _ _ h => h) (Or.inl ⟨by rfl, ?_⟩) (by assumption) ?_
          rotate_left
          · (intro w hSw; (try dsimp only at hSw); go_simp) <;> with_reducible rfl
          try simp only [Act.put, List.setIfInBounds_toArray, List.set_cons_zero, List.set_cons_succ]
          refine wpAnyH_take (i := 14) (oi := ⟨some 36, _, _, _, _, _⟩) (v := undef) rfl (by kernel_rfl) (by kernel_rfl) (by kernel_rfl) (fun _ _ _ h => h) (Or.inr ⟨by rfl, rfl⟩) (by assumption) ?_
          try simp only [Act.put, List.setIfInBounds_toArray, List.set_cons_zero, List.set_cons_succ]
          refine wpAnyH_take (i := 15) (oi := ⟨some 37, _, _, _, _, _⟩) (v := undef) rfl (by kernel_rfl) (by kernel_rfl) (by kernel_rfl) (fun _ _ _ h => h) (Or.inr ⟨by rfl, rfl⟩) (by assumption) ?_
          try simp only [Act.put, List.setIfInBounds_toArray, List.set_cons_zero, List.set_cons_succ]
          refine wpAnyH_take (i := 16) (oi := ⟨some 38, _, _, _, _, _⟩) (v := undef) rfl (by kernel_rfl) (by kernel_rfl) (by kernel_rfl) (fun _ _ _ h => h) (Or.inr ⟨by rfl, rfl⟩) (by assumption) ?_
          try simp only [Act.put, List.setIfInBounds_toArray, List.set_cons_zero, List.set_cons_succ]
          refine wpAnyH_take (i := 17) (oi := ⟨some 39, _, _, _, _, _⟩) (v := undef) rfl (by kernel_rfl) (by kernel_rfl) (by kernel_rfl) (fun _ _ _ h => h) (Or.inr ⟨by rfl, rfl⟩) (by assumption) ?_
          try simp only [Act.put, List.setIfInBounds_toArray, List.set_cons_zero, List.set_cons_succ]
          refine wpAnyH_take (i := 18) (oi := ⟨some 40, _, _, _, _, _⟩) (v := undef) rfl (by kernel_rfl) (by kernel_rfl) (by kernel_rfl) (fun _ _ _ h => h) (Or.inr ⟨by rfl, rfl⟩) (by assumption) ?_
          try simp only [Act.put, List.setIfInBounds_toArray, List.set_cons_zero, List.set_cons_succ]
          refine wpAnyH_take (i := 19) (oi := ⟨some 41, _, _, _, _, _⟩) (v := undef) rfl (by kernel_rfl) (by kernel_rfl) (by kernel_rfl) (fun _ _ _ h => h) (Or.inr ⟨by rfl, rfl⟩) (by assumption) ?_
          try simp only [Act.put, List.setIfInBounds_toArray, List.set_cons_zero, List.set_cons_succ]
          refine wpAnyH_take (i := 20) (oi := ⟨some 42, _, _, _, _, _⟩) (v := undef) rfl (by kernel_rfl) (by kernel_rfl) (by kernel_rfl) (fun _ _ _ h => h) (Or.inr ⟨by rfl, rfl⟩) (by assumption) ?_
          try simp only [Act.put, List.setIfInBounds_toArray, List.set_cons_zero, List.set_cons_succ]
          refine wpAnyH_take (i := 21) (oi := ⟨some 43, _, _, _, _, _⟩) (v := undef) rfl (by kernel_rfl) (by kernel_rfl) (by kernel_rfl) (fun _ _ _ h => h) (Or.inr ⟨by rfl, rfl⟩) (by assumption) ?_
          try simp only [Act.put, List.setIfInBounds_toArray, List.set_cons_zero, List.set_cons_succ]
          refine wpAnyH_take (i := 22) (oi := ⟨some 44, _, _, _, _, _⟩) (v := undef) rfl (by kernel_rfl) (by kernel_rfl) (by kernel_rfl) (fun _ _ _ h => h) (Or.inr ⟨by rfl, rfl⟩) (by assumption) ?_
          try simp only [Act.put, List.setIfInBounds_toArray, List.set_cons_zero, List.set_cons_succ]
          refine wpAnyH_take (i := 23) (oi := ⟨some 45, _, _, _, _, _⟩) (v := undef) rfl (by kernel_rfl) (by kernel_rfl) (by kernel_rfl) (fun _ _ _ h => h) (Or.inr ⟨by rfl, rfl⟩) (by assumption) ?_
          try simp only [Act.put, List.setIfInBounds_toArray, List.set_cons_zero, List.set_cons_succ]
          refine wpAnyH_take (i := 24) (oi := ⟨some 46, _, _, _, _, _⟩) (v := ?_) rfl (by kernel_rfl) (by kernel_rfl) (by kernel_rfl) (fun _ _ _ h => h) (Or.inl ⟨by rfl, ?_⟩) (by assumption) ?_
          rotate_left
          · (intro w hSw; (try dsimp only at hSw); go_simp) <;> with_reducible rfl
          try simp only [Act.put, List.setIfInBounds_toArray, List.set_cons_zero, List.set_cons_succ]
          refine wpAnyH_done (by kernel_rfl) ?_ _
          all_goals
            go_wp2_with fail
            go_roundw
            case rel => exact ⟨i + 1, by omega, by go_num, KN, R2.out⟩
            case measure => simp [intOf]; omega
      · have e : i = n := by omega
        subst e
        have E2 := Lib.hid (show (0 : Int) = RES by rw [← HK.out, show i - i = 0 by omega, wloopE])
        go_wp2_with fail
        go_ret
        exact ⟨ret_int E2.out, R1.out.be⟩
end Go.Proofs.Ytgdcgilhaedbmaa
