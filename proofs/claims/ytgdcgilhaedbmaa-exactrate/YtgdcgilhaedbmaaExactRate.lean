/- For every policy and every list of asks the law ExactRate returns true: of any Window of ticks no more is let in than Limit, and what is refused would make it more. No condition. -/
import Derived.Test.YtgdcgilhaedbmaaRows
import Derived.Test.YtgdcgilhaedbmaaExactRate0
import Derived.Deep.RegionHeld3
import Derived.Deep.DeepCutAuto
import Derived.BigQuiet
namespace Go.Proofs.Ytgdcgilhaedbmaa.exactRate
open Go.Joins Go.ChangeShapes Go.WideShapes Go.ChangeAt Go.RowKit Go.Deep
set_option linter.unusedVariables false

theorem drewN_add (w : World) (a b : Nat) : (w.drewN a).drewN b = w.drewN (a + b) := World.drewN_drewN w a b
set_option maxRecDepth 100000 in
set_option maxHeartbeats 16000000 in
theorem main (k l v b : Int) (A0 : Option Addr) (len cap : Nat) (fb fw : Nat → Int) (W : World) (hL : len ≤ 40) (hP : EP k l v b) (hh : HitsAt W A0 len fb fw) : Calls Try.prog 6 #[.agg #[.int .i64 k, .int .i64 l, .int .i64 v, .int .i64 b], .slice A0 len cap] W fun e w' => e = .returned (.bool true) ∧ Below W.heap.size W w' := by
  have CK := Lib.hid (fun u => rCheck_yes k l v b u hP.p)
  have HH := Lib.hid hh
  have HP := Lib.hid hP
  obtain ⟨l1, l2, v1, v2⟩ := hP.bd
  have tk : (k != 4) = false := by simp [hP.k4]
  have P0 := Lib.hid (Has.made W 23 [.int .i64 k, .int .i64 l, .int .i64 v, .int .i64 b])
  have Q0 := Lib.hid ((Below.refl W.heap.size W).alloc (Nat.le_refl _) (.cells #[.int .i64 k, .int .i64 l, .int .i64 v, .int .i64 b] 23))
  clear hh hP
  go_enter Try.func6, Try.ntmps6
  go_wp2_with fail
  refine (CK.out _).mono ?_; rintro e w1 ⟨rfl, hb⟩
  have hz : RateAt W k l v b w1.heap.size (w1.heap.size + 1) 0 (.slice none 0 0) 0 (fun _ => 0) (fun _ => 0) (.slice none 0 0) (.slice none 0 0) [] [] (w1.alloc (.cells #[.int .i64 0, .int .i64 0, .slice none 0 0, .slice none 0 0] 27)) := by
    have q := P0.out.below hb P0.out.lt
    have q2 : Below W.heap.size W w1 := Q0.out.trans (hb.mono Q0.out.size)
    have q3 := q.lt
    exact ⟨q.alloc _, Has.made w1 27 [.int .i64 0, .int .i64 0, .slice none 0 0, .slice none 0 0], q2.alloc q2.size _, q3, Own1.nil _ _ _, Own1.nil _ _ _, fun c hc => by simp [Value.ownBlock] at hc, Nat.lt_succ_self _, OwnH.nil _ _ _ _⟩
  obtain ⟨j0, j1, j2, j3⟩ := (P0.out.step hb).four
  clear hb P0 Q0 CK
  go_wp2_with fail
  clear j0 j1 j2 j3
  generalize w1.alloc (.cells #[.int .i64 0, .int .i64 0, .slice none 0 0, .slice none 0 0] 27) = w2 at hz ⊢
  generalize w1.heap.size = g at hz ⊢
  have R0 := Lib.hid hz
  clear hz
  go_loopw [6, 7, 8, 9] (fun vt sT sI vi wr => ∃ (j : Nat) (t : Int) (vh : Value) (hn : Nat) (f h : Nat → Int) (ts xs : List Int) (vT vI : Value), vT = sT ∧ vI = sI ∧ j ≤ len ∧ vi = .int .i64 (j : Int) ∧ vt = .int .i64 t ∧ 0 ≤ t ∧ t ≤ j * 1048576 ∧ Inv l v t hn f h ts xs j ∧ RateAt W k l v b g (g + 1) t vh hn f h vT vI ts xs wr) (fun _ _ _ vi _ => len - (intOf vi).toNat)
  case atStart => exact ⟨0, 0, _, 0, fun _ => 0, fun _ => 0, [], [], _, _, rfl, rfl, Nat.zero_le _, rfl, rfl, by omega, by omega, ⟨rfl, rfl, by simp, fun q hq => absurd hq (by omega), ⟨fun i hi => absurd hi (by omega), fun i hi => absurd hi (by omega), by show (0 : Int) ≤ l; omega⟩, fun X _ => rfl⟩, R0.out⟩
  case round =>
    obtain ⟨j, t, vh, hn, f, h, ts, xs, vT, vI, rfl, rfl, hj, rfl, rfl, t0, t1, hI, hr⟩ := hrel
    have R1 := Lib.hid hr
    have IV := Lib.hid hI
    clear hr R0 hI
    by_cases hlt : j < len
    · obtain ⟨A, hcap, rfl, _, _, _⟩ := R1.out.s.at_
      obtain ⟨b1, o1, rfl, hb1, hf⟩ := HH.out (by omega)
      obtain ⟨hf1, hf2⟩ := hf j hlt
      clear hf
      generalize fb j = y at hf1
      generalize fw j = m at hf2
      have X1 := Lib.hid hf1
      have X2 := Lib.hid hf2
      have q1 := (R1.out.be.cell (p := ⟨b1, o1 + j * 2, none⟩) hb1).trans hf1
      have q2 := (R1.out.be.cell (p := ⟨b1, o1 + j * 2 + 1, none⟩) hb1).trans hf2
      clear hf1 hf2
      obtain ⟨⟨j0, j1, j2, j3⟩, c0, c1, c2, c3⟩ := R1.out.cells
      by_cases hy : y < 0
      · go_wp2_with fail
        refine (live_any _).mono ?_; rintro e wl ⟨rfl, hb⟩
        have RL := Lib.hid (R1.out.step hb)
        clear hb
        go_wp2_with fail
        go_ret
        exact ⟨rfl, RL.out.be⟩
      by_cases hy2 : 1048576 < y
      · go_wp2_with fail
        refine (live_any _).mono ?_; rintro e wl ⟨rfl, hb⟩
        have RL := Lib.hid (R1.out.step hb)
        clear hb
        go_wp2_with fail
        go_ret
        exact ⟨rfl, RL.out.be⟩
      by_cases hm : 1 ≤ m ∧ m ≤ 1048576
      · obtain ⟨m1, m2⟩ := hm
        have WK := Lib.hid (fun u => rWeighs_yes m u m1 m2)
        go_wp2_with fail
        refine (WK.out _).mono ?_; rintro e w' ⟨rfl, rfl⟩
        have KK := Lib.hid (fun u (hu : OwnH 0 u (.slice A hn hcap) hn f h) => Ask_E0 (t := t + y) (m := m) (sa := none) (ha := A) (sc := 0) (hc := hcap) HP.out t0 (by omega) IV.out.may u hu.hits.1 hu.hits.2.1 hu.hits.2.2 (by omega) (by omega) m1 m2)
        have hT : tmax (t + y) t = t + y := tmax_hi (by omega)
        have IN := Lib.hid (IV.out.next t0 (show t ≤ t + y by omega) m1 m2 v1)
        have AK := Lib.hid (asked (m := m) IV.out (show t ≤ t + y by omega) (show 0 ≤ l by omega))
        have hNN := IN.out.may.len
        rw [hT] at KK
        clear hT
        generalize eRm l v t (t + y) m hn f h = rm at *
        generalize eRt l v t (t + y) m hn f h = rt at *
        generalize eRs l v t (t + y) m hn f h = rs at *
        generalize eF l v t (t + y) m hn f h = F at *
        generalize eG l v t (t + y) m hn f h = G at *
        generalize eAl l v t (t + y) m hn f h = al at *
        generalize eN l v t (t + y) m hn f h = n at *
        go_upto_region 13 with (fail)
        obtain ⟨T, hTT⟩ : ∃ T, t + y = T := ⟨_, rfl⟩
        rw [hTT] at KK IN AK ⊢
        have ET := Lib.hid hTT
        have TB : T ≤ 41943040 := by omega
        have TB0 : 0 ≤ T := by omega
        clear q1 q2 hTT
        clear j0 j1 j2 j3 c0 c1 c2 c3
        have B0 : (0 : Int) ≤ (j : Int) := by omega
        have B1 : (j : Int) < (len : Int) := by omega
        obtain ⟨AT, cT, hvT⟩ := R1.out.oT.sl
        rw [iv_len, IV.out.lt] at hvT
        subst hvT
        obtain ⟨AI, cI, hvI⟩ := R1.out.oI.sl
        rw [iv_len, IV.out.lx] at hvI
        subst hvI
        go_wp2_with fail
        go_loopw [10, 11] (fun ss sk wx => ∃ q : Nat, q ≤ j ∧ sk = .int .i64 (q : Int) ∧ ss = .int .i64 (sumC (inL v T ts) xs q) ∧ ∃ d, wx = wr.drewN d) (fun _ sk _ => j - (intOf sk).toNat)
        case atStart => exact ⟨0, Nat.zero_le _, rfl, rfl, 0, rfl⟩
        case round =>
          obtain ⟨q, hq, rfl, rfl, d, rfl⟩ := hrel
          obtain ⟨lb1, lb2⟩ := sumC_bd (p := inL v T ts) IV.out.bx q (by rw [IV.out.lx]; exact hq)
          by_cases hlt2 : q < j
          · obtain ⟨⟨j0, j1, j2, j3⟩, c0, c1, c2, c3⟩ := R1.out.cells
            obtain ⟨gI, cI', eI, lI, mI, _, fI⟩ := own_at R1.out.oI (by intro e; have := IV.out.lx; rw [e] at this; simp at this; omega)
            obtain ⟨gT, cT', eT, lT, mT, _, fT⟩ := own_at R1.out.oT (by intro e; have := IV.out.lt; rw [e] at this; simp at this; omega)
            rw [IV.out.lx] at lI fI
            rw [IV.out.lt] at lT fT
            injection eT with eT1 eT2 eT3
            injection eI with eI1 eI2 eI3
            subst eT1 eI1
            have d1 := fI q hlt2
            have d2 := fT q hlt2
            obtain ⟨hx1, hx2⟩ := getD_bx IV.out.bx (show q < xs.length by rw [IV.out.lx]; omega)
            obtain ⟨ht1, ht2⟩ := IV.out.bt q hlt2
            have HL1 := Lib.hid (show sumC (inL v T ts) xs (q + 1) = sumC (inL v T ts) xs q + if inL v T ts q = true then xs.getD q 0 else 0 from rfl)
            have PL := Lib.hid (show inL v T ts q = decide (T - v < ts.getD q 0) from rfl)
            have f5 : IntKind.i64.wrap (T - v) = T - v := wrap_i (by omega) (by omega)
            clear fI fT eT2 eT3 eI2 eI3 lI lT mI mT
            generalize sumC (inL v T ts) xs q = L1 at *
            generalize inL v T ts q = pL at *
            generalize xs.getD q 0 = xr at *
            generalize ts.getD q 0 = tr at *
            have B0' : (0 : Int) ≤ (q : Int) := by omega
            have B1' : (q : Int) < (j : Int) := by omega
            by_cases hLL2 : T - v < tr
            · have dL : decide (T - v < tr) = true := by simp; omega
              have eL : pL = true := by rw [PL.out]; exact decide_eq_true hLL2
              go_wp2_with fail
              go_quiet (fail)
              go_wp2_with fail
              go_roundw
              case rel => exact ⟨q + 1, by omega, by go_num, by rw [HL1.out, if_pos eL], d + nq, by first | rfl | exact drewN_add _ _ _⟩
              case measure => simp [intOf]; omega
            · have dL : decide (T - v < tr) = false := by simp; omega
              have eL : ¬ pL = true := by rw [PL.out]; simp; omega
              go_wp2_with fail
              go_quiet (fail)
              go_wp2_with fail
              go_roundw
              case rel => exact ⟨q + 1, by omega, by go_num, by rw [HL1.out, if_neg eL, Int.add_zero], d + nq, by first | rfl | exact drewN_add _ _ _⟩
              case measure => simp [intOf]; omega
          · obtain rfl : q = j := by omega
            have R2 := Lib.hid (R1.out.drewN d)
            clear R1
            obtain ⟨as0, as1, as2, as3⟩ := AK.out
            obtain ⟨S, hS⟩ : ∃ S, sumC (inL v T ts) xs q = S := ⟨_, rfl⟩
            rw [hS] at as0 as1 as2 as3 lb1 lb2 ⊢
            clear hS AK
            go_wp2_with fail
            generalize wr.drewN d = wr at R2 ⊢
            go_cut [12, 13] (fun s9 s10 wx => Got W k l v b g (g + 1) t (.slice A hn hcap) hn f h (.slice AT q cT) (.slice AI q cI) ts xs T n F G al rm rt rs s9 s10 wx)
            case first =>
              have G2 := Lib.hid R2.out.fr
              have G3 := Lib.hid R2.out.fr.next
              go_region_held3 (fun w' => Rd W k l v b g t (.slice A hn hcap) b1 (o1 + q * 2 + 1) m w') (first | (with_reducible exact R2.out.rd hb1 X2.out) | (with_reducible exact R2.out.drew.rd hb1 X2.out) | (with_reducible exact (R2.out.alloc (.cells #[.int .i64 0, .int .i64 0, .slice none 0 0, .slice none 0 0] 27)).rd hb1 X2.out) | (with_reducible exact (R2.out.alloc (.cells #[.int .i64 0, .int .i64 0, .slice none 0 0, .slice none 0 0] 27)).drew.rd hb1 X2.out) | (with_reducible exact (R2.out.drew.alloc (.cells #[.int .i64 0, .int .i64 0, .slice none 0 0, .slice none 0 0] 27)).rd hb1 X2.out) | (with_reducible exact (R2.out.alloc (.cells #[.bool false, .int .i64 0, .int .i64 0, .int .i64 0] 32)).rd hb1 X2.out) | (with_reducible exact (R2.out.alloc (.cells #[.bool false, .int .i64 0, .int .i64 0, .int .i64 0] 32)).drew.rd hb1 X2.out) | (with_reducible exact (R2.out.drew.alloc (.cells #[.bool false, .int .i64 0, .int .i64 0, .int .i64 0] 32)).rd hb1 X2.out) | (with_reducible exact ((R2.out.alloc (.cells #[.int .i64 0, .int .i64 0, .slice none 0 0, .slice none 0 0] 27)).alloc (.cells #[.bool false, .int .i64 0, .int .i64 0, .int .i64 0] 32)).rd hb1 X2.out) | (with_reducible exact ((R2.out.alloc (.cells #[.int .i64 0, .int .i64 0, .slice none 0 0, .slice none 0 0] 27)).alloc (.cells #[.bool false, .int .i64 0, .int .i64 0, .int .i64 0] 32)).drew.rd hb1 X2.out) | (with_reducible exact ((R2.out.alloc (.cells #[.bool false, .int .i64 0, .int .i64 0, .int .i64 0] 32)).alloc (.cells #[.int .i64 0, .int .i64 0, .slice none 0 0, .slice none 0 0] 27)).rd hb1 X2.out) | (with_reducible exact ((R2.out.alloc (.cells #[.bool false, .int .i64 0, .int .i64 0, .int .i64 0] 32)).alloc (.cells #[.int .i64 0, .int .i64 0, .slice none 0 0, .slice none 0 0] 27)).drew.rd hb1 X2.out) | (with_reducible exact R5.out.rd hb1 X2.out) | (with_reducible exact (R5.out.alloc _).rd hb1 X2.out) | (with_reducible exact ((R5.out.alloc _).alloc _).rd hb1 X2.out) | (with_reducible exact (R5.out.set4 G2.out _ _ _ _).rd hb1 X2.out) | (with_reducible exact ((R5.out.set4 G2.out _ _ _ _).alloc _).rd hb1 X2.out) | (with_reducible exact (R5.out.set4 G3.out _ _ _ _).rd hb1 X2.out) | (with_reducible exact ((R5.out.set4 G3.out _ _ _ _).alloc _).rd hb1 X2.out) | (with_reducible exact ((R5.out.set4 G2.out _ _ _ _).set4 G3.out _ _ _ _).rd hb1 X2.out) | (with_reducible exact ((R5.out.set4 G3.out _ _ _ _).set4 G2.out _ _ _ _).rd hb1 X2.out) | go_keep) (first | (go_at_call 10; (with_reducible refine (KK.out _ (R2.out.drew).s).mono ?_); rintro e w5 ⟨vv, rfl, hs, hb⟩; obtain ⟨A2, cap2, rfl, hs1, hs2, hs3⟩ := hs.at_; clear hs1 hs2 hs3; have R5 := Lib.hid ((R2.out.drew).step hb); have S5 := Lib.hid (hs.base (Nat.zero_le _)); clear hs hb) | (go_at_call 10; (with_reducible refine (KK.out _ ((R2.out.alloc (.cells #[.int .i64 0, .int .i64 0, .slice none 0 0, .slice none 0 0] 27)).drew).s).mono ?_); rintro e w5 ⟨vv, rfl, hs, hb⟩; obtain ⟨A2, cap2, rfl, hs1, hs2, hs3⟩ := hs.at_; clear hs1 hs2 hs3; have R5 := Lib.hid (((R2.out.alloc (.cells #[.int .i64 0, .int .i64 0, .slice none 0 0, .slice none 0 0] 27)).drew).step hb); have N9 := Lib.hid ((has_drew (Has.made wr 27 [.int .i64 0, .int .i64 0, .slice none 0 0, .slice none 0 0])).step hb); obtain ⟨n90, n91, n92, n93⟩ := N9.out.four; have n9f := N9.out.loose; have n9l := N9.out.lt; have S5 := Lib.hid (hs.base (Nat.zero_le _)); clear hs hb) | (go_at_call 10; (with_reducible refine (KK.out _ ((R2.out.alloc (.cells #[.bool false, .int .i64 0, .int .i64 0, .int .i64 0] 32)).drew).s).mono ?_); rintro e w5 ⟨vv, rfl, hs, hb⟩; obtain ⟨A2, cap2, rfl, hs1, hs2, hs3⟩ := hs.at_; clear hs1 hs2 hs3; have R5 := Lib.hid (((R2.out.alloc (.cells #[.bool false, .int .i64 0, .int .i64 0, .int .i64 0] 32)).drew).step hb); have N10 := Lib.hid ((has_drew (Has.made wr 32 [.bool false, .int .i64 0, .int .i64 0, .int .i64 0])).step hb); obtain ⟨n100, n101, n102, n103⟩ := N10.out.four; have n10f := N10.out.loose; have n10l := N10.out.lt; have S5 := Lib.hid (hs.base (Nat.zero_le _)); clear hs hb) | (go_at_call 10; (with_reducible refine (KK.out _ (((R2.out.alloc (.cells #[.int .i64 0, .int .i64 0, .slice none 0 0, .slice none 0 0] 27)).alloc (.cells #[.bool false, .int .i64 0, .int .i64 0, .int .i64 0] 32)).drew).s).mono ?_); rintro e w5 ⟨vv, rfl, hs, hb⟩; obtain ⟨A2, cap2, rfl, hs1, hs2, hs3⟩ := hs.at_; clear hs1 hs2 hs3; have R5 := Lib.hid ((((R2.out.alloc (.cells #[.int .i64 0, .int .i64 0, .slice none 0 0, .slice none 0 0] 27)).alloc (.cells #[.bool false, .int .i64 0, .int .i64 0, .int .i64 0] 32)).drew).step hb); have N9 := Lib.hid ((has_drew ((Has.made wr 27 [.int .i64 0, .int .i64 0, .slice none 0 0, .slice none 0 0]).alloc (.cells #[.bool false, .int .i64 0, .int .i64 0, .int .i64 0] 32))).step hb); obtain ⟨n90, n91, n92, n93⟩ := N9.out.four; have n9f := N9.out.loose; have n9l := N9.out.lt; have N10 := Lib.hid ((has_drew (made10 wr 32 [.bool false, .int .i64 0, .int .i64 0, .int .i64 0] (.cells #[.int .i64 0, .int .i64 0, .slice none 0 0, .slice none 0 0] 27))).step hb); obtain ⟨n100, n101, n102, n103⟩ := N10.out.four; have n10f := N10.out.loose; have n10l := N10.out.lt; have S5 := Lib.hid (hs.base (Nat.zero_le _)); clear hs hb) | (go_at_call 10; (with_reducible refine (KK.out _ (((R2.out.alloc (.cells #[.bool false, .int .i64 0, .int .i64 0, .int .i64 0] 32)).alloc (.cells #[.int .i64 0, .int .i64 0, .slice none 0 0, .slice none 0 0] 27)).drew).s).mono ?_); rintro e w5 ⟨vv, rfl, hs, hb⟩; obtain ⟨A2, cap2, rfl, hs1, hs2, hs3⟩ := hs.at_; clear hs1 hs2 hs3; have R5 := Lib.hid ((((R2.out.alloc (.cells #[.bool false, .int .i64 0, .int .i64 0, .int .i64 0] 32)).alloc (.cells #[.int .i64 0, .int .i64 0, .slice none 0 0, .slice none 0 0] 27)).drew).step hb); have N10 := Lib.hid ((has_drew ((Has.made wr 32 [.bool false, .int .i64 0, .int .i64 0, .int .i64 0]).alloc (.cells #[.int .i64 0, .int .i64 0, .slice none 0 0, .slice none 0 0] 27))).step hb); obtain ⟨n100, n101, n102, n103⟩ := N10.out.four; have n10f := N10.out.loose; have n10l := N10.out.lt; have N9 := Lib.hid ((has_drew (made10 wr 27 [.int .i64 0, .int .i64 0, .slice none 0 0, .slice none 0 0] (.cells #[.bool false, .int .i64 0, .int .i64 0, .int .i64 0] 32))).step hb); obtain ⟨n90, n91, n92, n93⟩ := N9.out.four; have n9f := N9.out.loose; have n9l := N9.out.lt; have S5 := Lib.hid (hs.base (Nat.zero_le _)); clear hs hb))
              all_goals (go_wp2_with fail; go_meet)
              all_goals first | (with_reducible exact got0 R5.out S5.out) | (with_reducible exact got1 R5.out S5.out) | (with_reducible exact got2 R5.out S5.out N9.out G2.out) | (with_reducible exact got3 R5.out S5.out N10.out G2.out) | (with_reducible exact got4 R5.out S5.out N9.out N10.out G2.out G3.out (ne1 _)) | (with_reducible exact got4 R5.out S5.out N9.out N10.out G3.out G2.out (ne2 _))
            case rest =>
            obtain ⟨g9, g10, vv, rfl, rfl, hr, h9, h10, l9, l10, hS⟩ := hcut
            obtain ⟨A2, cap2, rfl, _, _, _⟩ := hS.at_
            clear KK R2
            obtain ⟨⟨j0, j1, j2, j3⟩, c0, c1, c2, c3⟩ := hr.cells
            obtain ⟨a0, a1, a2, a3⟩ := h9.four
            have cf := hr.c.loose
            have n9 : g9 ≠ g := by have := l9.g; omega
            have n9' : g ≠ g9 := by omega
            have HZ := Lib.hid (hr.upd (T := T) hS)
            have HY := Lib.hid (show Has ((((wc.setCell ⟨g, 0, none⟩ (.int .i64 T)).setCell ⟨g, 1, none⟩ (.int .i64 0)).setCell ⟨g, 2, none⟩ (.slice none 0 0)).setCell ⟨g, 3, none⟩ ((.slice A2 n cap2))) g10 32 [.bool al, .int .i64 rm, .int .i64 rt, .int .i64 rs] from has_set4 h10 (by have := l10.g; omega) _ _ _ _)
            have F10 := Lib.hid l10
            clear hr h9 h10 l9 l10 hS
            go_upto_region 21 with (fail)
            clear j0 j1 j2 j3 c0 c1 c2 c3
            clear a0 a1 a2 a3 cf n9 n9'
            generalize ((((wc.setCell ⟨g, 0, none⟩ (.int .i64 T)).setCell ⟨g, 1, none⟩ (.int .i64 0)).setCell ⟨g, 2, none⟩ (.slice none 0 0)).setCell ⟨g, 3, none⟩ ((.slice A2 n cap2))) = wd at HZ HY ⊢
            have LT := Lib.hid (show (iv ts).length = q by rw [iv_len]; exact IV.out.lt)
            have LI := Lib.hid (show (iv xs).length = q by rw [iv_len]; exact IV.out.lx)
            have SZ := Lib.hid (show g + 1 ≤ wd.heap.size from HZ.out.c.lt)
            have OT := Lib.hid HZ.out.oT
            go_wp2_with (at_builtin; refine wpList_append_own1 wd wd.heap.size rfl rfl _ _ 24 rfl 3 (.int .i64 0) 8 Try.underlying24 infoI rfl (by decide) _ (.int .i64 T) (iv ts) q LT.out rfl rfl rfl OT.out SZ.out (by omega) ?_)
            intro g7 cap7 w7 ho hk hg hgl
            have R7 := Lib.hid (HZ.out.appT (z := T) (vT' := .slice (some ⟨g7, 0, none⟩) (q + 1) cap7) (g7 := g7) rfl ho hk hg)
            have Y7 := Lib.hid (has_kept HY.out hk (fun e => by have := F10.out.t g10 e; omega))
            clear ho hk hg hgl HZ HY OT SZ
            obtain ⟨⟨j0, j1, j2, j3⟩, c0, c1, c2, c3⟩ := R7.out.cells
            obtain ⟨u0, u1, u2, u3⟩ := Y7.out.four
            have q2 := (R7.out.be.cell (p := ⟨b1, o1 + q * 2 + 1, none⟩) hb1).trans X2.out
            have e9 : IntKind.i64.wrap (S + m) = S + m := wrap_i (by omega) (by omega)
            have hn16 : n ≤ 16 := by omega
            have d16 : decide ((16 : Int) < (n : Int)) = false := by simp; omega
            cases al
            · obtain ⟨k1, k2⟩ := as3 rfl
              clear as2 as3
              have dM : decide (S + m ≤ l) = false := by simp; omega
              subst k2
              have e8 : IntKind.i64.wrap (l - S) = l - S := wrap_i (by omega) (by omega)
              have dS : decide (l < S) = false := by simp; omega
              go_wp2_with fail
              go_quiet (fail)
              have R8 := Lib.hid (R7.out.drewN nq)
              have Y8 := Lib.hid (show Has (w7.drewN nq) g10 32 [.bool false, .int .i64 (l - S), .int .i64 rt, .int .i64 rs] from Y7.out)
              clear R7 Y7 j0 j1 j2 j3 c0 c1 c2 c3 u0 u1 u2 u3 q2
              generalize w7.drewN nq = w8 at R8 Y8 ⊢
              obtain ⟨⟨j0, j1, j2, j3⟩, c0, c1, c2, c3⟩ := R8.out.cells
              obtain ⟨u0, u1, u2, u3⟩ := Y8.out.four
              have q2 := (R8.out.be.cell (p := ⟨b1, o1 + q * 2 + 1, none⟩) hb1).trans X2.out
              have SZ8 := Lib.hid (show g + 1 ≤ w8.heap.size from R8.out.c.lt)
              have OI := Lib.hid R8.out.oI
              go_wp2_with (at_builtin; refine wpList_append_own1 w8 w8.heap.size rfl rfl _ _ 24 rfl 3 (.int .i64 0) 8 Try.underlying24 infoI rfl (by decide) _ (.int .i64 0) (iv xs) q LI.out rfl rfl rfl OI.out SZ8.out (by omega) ?_)
              intro g8 cap8 w9 ho hk hg hgl
              have R9 := Lib.hid (R8.out.appI (z := 0) (vI' := .slice (some ⟨g8, 0, none⟩) (q + 1) cap8) (g7 := g8) rfl ho hk hg)
              have Y9 := Lib.hid (has_kept Y8.out hk (fun e => by have := F10.out.i g10 e; omega))
              clear ho hk hg hgl R8 Y8 OI SZ8 j0 j1 j2 j3 c0 c1 c2 c3 u0 u1 u2 u3 q2
              obtain ⟨⟨j0, j1, j2, j3⟩, c0, c1, c2, c3⟩ := R9.out.cells
              obtain ⟨u0, u1, u2, u3⟩ := Y9.out.four
              have q2 := (R9.out.be.cell (p := ⟨b1, o1 + q * 2 + 1, none⟩) hb1).trans X2.out
              go_wp2_with fail
              go_roundw
              case rel => exact ⟨q + 1, T, _, n, F, G, ts ++ [T], xs ++ [0], _, _, rfl, rfl, by omega, by go_num, rfl, TB0, by have := ET.out; omega, IN.out, R9.out⟩
              case measure => simp [intOf]; omega
            · obtain ⟨k1, k2⟩ := as2 rfl
              clear as2 as3
              have dM : decide (S + m ≤ l) = true := by simp; omega
              subst k2
              have e8 : IntKind.i64.wrap (l - (S + m)) = l - (S + m) := wrap_i (by omega) (by omega)
              have dS : decide (l < (S + m)) = false := by simp; omega
              go_wp2_with fail
              go_quiet (fail)
              have R8 := Lib.hid (R7.out.drewN nq)
              have Y8 := Lib.hid (show Has (w7.drewN nq) g10 32 [.bool true, .int .i64 (l - (S + m)), .int .i64 rt, .int .i64 rs] from Y7.out)
              clear R7 Y7 j0 j1 j2 j3 c0 c1 c2 c3 u0 u1 u2 u3 q2
              generalize w7.drewN nq = w8 at R8 Y8 ⊢
              obtain ⟨⟨j0, j1, j2, j3⟩, c0, c1, c2, c3⟩ := R8.out.cells
              obtain ⟨u0, u1, u2, u3⟩ := Y8.out.four
              have q2 := (R8.out.be.cell (p := ⟨b1, o1 + q * 2 + 1, none⟩) hb1).trans X2.out
              have SZ8 := Lib.hid (show g + 1 ≤ w8.heap.size from R8.out.c.lt)
              have OI := Lib.hid R8.out.oI
              go_wp2_with (at_builtin; refine wpList_append_own1 w8 w8.heap.size rfl rfl _ _ 24 rfl 3 (.int .i64 0) 8 Try.underlying24 infoI rfl (by decide) _ (.int .i64 m) (iv xs) q LI.out rfl rfl rfl OI.out SZ8.out (by omega) ?_)
              intro g8 cap8 w9 ho hk hg hgl
              have R9 := Lib.hid (R8.out.appI (z := m) (vI' := .slice (some ⟨g8, 0, none⟩) (q + 1) cap8) (g7 := g8) rfl ho hk hg)
              have Y9 := Lib.hid (has_kept Y8.out hk (fun e => by have := F10.out.i g10 e; omega))
              clear ho hk hg hgl R8 Y8 OI SZ8 j0 j1 j2 j3 c0 c1 c2 c3 u0 u1 u2 u3 q2
              obtain ⟨⟨j0, j1, j2, j3⟩, c0, c1, c2, c3⟩ := R9.out.cells
              obtain ⟨u0, u1, u2, u3⟩ := Y9.out.four
              have q2 := (R9.out.be.cell (p := ⟨b1, o1 + q * 2 + 1, none⟩) hb1).trans X2.out
              go_wp2_with fail
              go_roundw
              case rel => exact ⟨q + 1, T, _, n, F, G, ts ++ [T], xs ++ [m], _, _, rfl, rfl, by omega, by go_num, rfl, TB0, by have := ET.out; omega, IN.out, R9.out⟩
              case measure => simp [intOf]; omega
      · have WK := Lib.hid (fun u => rWeighs_no m u hm)
        clear hm
        go_wp2_with fail
        refine (WK.out _).mono ?_; rintro e w' ⟨rfl, rfl⟩
        go_wp2_with fail
        refine (live_any _).mono ?_; rintro e wl ⟨rfl, hb⟩
        have RL := Lib.hid (R1.out.step hb)
        clear hb
        go_wp2_with fail
        go_ret
        exact ⟨rfl, RL.out.be⟩
    · go_wp2_with fail
      refine (live_any _).mono ?_; rintro e wl ⟨rfl, hb⟩
      have RL := Lib.hid (R1.out.step hb)
      clear hb
      go_wp2_with fail
      go_ret
      exact ⟨rfl, RL.out.be⟩

set_option maxRecDepth 100000 in
theorem e0 (k l v b : Int) (A : Option Addr) (len cap : Nat) (W : World) (hL : 40 < len) (hM : len ≤ maxLen) :
    Calls Try.prog 6 #[.agg #[.int .i64 k, .int .i64 l, .int .i64 v, .int .i64 b], .slice A len cap] W fun e w' => e = .returned (.bool true) ∧ Below W.heap.size W w' := by
  unfold maxLen at hM
  have Q0 := Lib.hid ((Below.refl W.heap.size W).alloc (Nat.le_refl _) (.cells #[.int .i64 k, .int .i64 l, .int .i64 v, .int .i64 b] 23))
  go_enter Try.func6, Try.ntmps6
  go_wp2_with fail
  refine (live_any _).mono ?_; rintro e wl ⟨rfl, hb⟩
  have Q1 := Lib.hid (Q0.out.trans (hb.mono Q0.out.size))
  clear hb
  go_wp2_with fail
  go_ret
  exact ⟨rfl, Q1.out⟩
set_option maxRecDepth 100000 in
theorem e1 (k l v b : Int) (A : Option Addr) (len cap : Nat) (W : World) (hL : len ≤ 40) (hP : ¬ MayP k l v b) :
    Calls Try.prog 6 #[.agg #[.int .i64 k, .int .i64 l, .int .i64 v, .int .i64 b], .slice A len cap] W fun e w' => e = .returned (.bool true) ∧ Below W.heap.size W w' := by
  have CK := Lib.hid (fun u => rCheck_no k l v b u hP)
  have Q0 := Lib.hid ((Below.refl W.heap.size W).alloc (Nat.le_refl _) (.cells #[.int .i64 k, .int .i64 l, .int .i64 v, .int .i64 b] 23))
  clear hP
  go_enter Try.func6, Try.ntmps6
  go_wp2_with fail
  refine (CK.out _).mono ?_; rintro e w1 ⟨rfl, hb⟩
  have Q1 := Lib.hid (Q0.out.trans (hb.mono Q0.out.size))
  clear hb
  go_wp2_with fail
  refine (live_any _).mono ?_; rintro e wl ⟨rfl, hb⟩
  have Q2 := Lib.hid (Q1.out.trans (hb.mono Q1.out.size))
  clear hb
  go_wp2_with fail
  go_ret
  exact ⟨rfl, Q2.out⟩
set_option maxRecDepth 100000 in
theorem e2 (k l v b : Int) (A : Option Addr) (len cap : Nat) (W : World) (hL : len ≤ 40) (hP : MayP k l v b) (hk : ¬ k = 4) :
    Calls Try.prog 6 #[.agg #[.int .i64 k, .int .i64 l, .int .i64 v, .int .i64 b], .slice A len cap] W fun e w' => e = .returned (.bool true) ∧ Below W.heap.size W w' := by
  have CK := Lib.hid (fun u => rCheck_yes k l v b u hP)
  have tk : (k != 4) = true := by simp [hk]
  have Q0 := Lib.hid ((Below.refl W.heap.size W).alloc (Nat.le_refl _) (.cells #[.int .i64 k, .int .i64 l, .int .i64 v, .int .i64 b] 23))
  have P0 := Lib.hid (Has.made W 23 [.int .i64 k, .int .i64 l, .int .i64 v, .int .i64 b])
  clear hP hk
  go_enter Try.func6, Try.ntmps6
  go_wp2_with fail
  refine (CK.out _).mono ?_; rintro e w1 ⟨rfl, hb⟩
  have Q1 := Lib.hid (Q0.out.trans (hb.mono Q0.out.size))
  obtain ⟨j0, j1, j2, j3⟩ := (P0.out.step hb).four
  clear hb
  go_wp2_with fail
  refine (live_any _).mono ?_; rintro e wl ⟨rfl, hb⟩
  have Q2 := Lib.hid (Q1.out.trans (hb.mono Q1.out.size))
  clear hb
  go_wp2_with fail
  go_ret
  exact ⟨rfl, Q2.out⟩

theorem walk (k l v b : Int) (A : Option Addr) (len cap : Nat) (h0 : (Lit.int .i64 k).wf = true) (h1 : (Lit.int .i64 l).wf = true) (h2 : (Lit.int .i64 v).wf = true) (h3 : (Lit.int .i64 b).wf = true) {W : World} (hc : IsHits W A len cap) : Calls Try.prog 6 #[.agg #[.int .i64 k, .int .i64 l, .int .i64 v, .int .i64 b], .slice A len cap] W fun e w' => e = .returned (.bool true) ∧ Below W.heap.size W w' := by
  obtain ⟨f, h, hh⟩ := hc.at_
  by_cases hL : len ≤ 40
  · by_cases hP : MayP k l v b
    · by_cases hk : k = 4
      · exact main k l v b A len cap f h W hL ⟨hP, hk⟩ hh
      · exact e2 k l v b A len cap W hL hP hk
    · exact e1 k l v b A len cap W hL hP
  · exact e0 k l v b A len cap W (by omega) (Nat.le_trans hc.1 hc.2.1)

theorem own : ownKnob Try.prog.godebug = none := by kernel_rfl
theorem laidOut : laidOutB Try.prog = true := by kernel_rfl
theorem contract (H : Type) (enc : TypeId × Value → H) (W : World) (base : Nat) (args : Array Value) (ds gs : List (DataW H)) (before : List MemPlace)
    (hval : ∀ (j : Nat) t v, Try.f6.params[j]? = some t → args[j]? = some v → Value.okWide Try.prog W .any base t v)
    (hW : DataW.Whole enc Try.prog Try.f6.params.toList Rows.exactRateSpec.vars false W args.toList ds gs before) :
    Calls Try.prog 6 args W fun e W' => ∃ v, e = .returned v ∧ Rows.exactRateSpec.post enc Try.prog Try.f6 false true false false W args v W' := by
  have hW' := hW
  obtain ⟨p, q, hA0, hV, rfl, hfz, hnd⟩ := hW
  have hA : DataW.TrodAll enc Try.prog W 0 (fun _ => true) true Try.f6.params.toList args.toList ds p := hA0
  rw [Try.params6] at hA hval
  obtain ⟨v0, vs0, d0, ds0, p0, q0, hargs, rfl, rfl, h0, r0⟩ := trodAll_cons hA
  obtain ⟨v1, vs1, d1, ds1, p1, q1, rfl, rfl, rfl, h1, r1⟩ := trodAll_cons r0
  obtain ⟨rfl, rfl, rfl⟩ := trodAll_nil r1
  obtain rfl : args = #[v0, v1] := by cases args; simp_all
  obtain ⟨rfl, rfl⟩ := trodVars_none hV
  have k0 := h0
  have lt0 : ∀ x ∈ p0, x.block < W.heap.size := by obtain ⟨m, hm⟩ := k0; exact DataW.trod_lt m _ _ _ hm
  obtain ⟨p0_k, p0_l, p0_v, p0_b, rfl, wp0_k, wp0_l, wp0_v, wp0_b⟩ := open_pol (hval 0 23 v0 rfl rfl) h0
  have k1 := h1
  have lt1 : ∀ x ∈ p1, x.block < W.heap.size := by obtain ⟨m, hm⟩ := k1; exact DataW.trod_lt m _ _ _ hm
  obtain ⟨a1, len1, cap1, rfl, w1⟩ := open_ops (hval 1 41 v1 rfl rfl) h1
  clear hA0
  refine (walk p0_k p0_l p0_v p0_b a1 len1 cap1 wp0_k wp0_l wp0_v wp0_b w1).mono fun e W' ⟨he, bel⟩ => ?_
  subst he
  exact ⟨_, rfl, _, _, _, [], _, [], hW', trodAll_mk1 (shut_bool Try.underlying4 _), (trodAll_cons_mk (Below.trod laidOut (by kernel_rfl) (of_decide_eq_true (by kernel_rfl)) k0 bel lt0) (trodAll_cons_mk (Below.trod laidOut (by kernel_rfl) (of_decide_eq_true (by kernel_rfl)) k1 bel lt1) trodAll_mk0)), rfl, bel.frame _, fun h => by cases h⟩

set_option maxRecDepth 100000 in
theorem lifted (os : Os) (started : os.Started) (H : Type) (enc : TypeId × Value → H) :
    ReturnsInHanded {} Try.checked os 6 .any (Rows.exactRateSpec.pre6 enc Try.prog Try.f6 Rows.exactRateRow.domain false) (Rows.exactRateSpec.post enc Try.prog Try.f6 false true false false) := by
  refine returnsInHanded_of_change (C := Try.checked) own started (by kernel_rfl) Try.func6
    (ChangeSpec.witness6 (enc := enc) (C := Try.checked) false ⟨#[], #[.agg #[.int .i64 0, .int .i64 0, .int .i64 0, .int .i64 0], .slice none 0 0], []⟩ 8 (by kernel_rfl) (by kernel_rfl) (by kernel_rfl) (by kernel_rfl)) ?_
  intro W base args ds gs before hval hW _ _
  exact contract H enc W base args ds gs before hval hW

theorem over : Rows.exactRateRow.holds Try.pinned (OpenSpec.ofChange Rows.exactRateSpec) :=
  OpenClaim.holds_of_wide 6 Try.f6 rfl rfl rfl rfl rfl rfl rfl ⟨rfl, rfl, rfl, rfl, rfl⟩ rfl rfl rfl rfl rfl (by kernel_rfl) Try.func6 (by kernel_rfl)
    (of_decide_eq_true (by kernel_rfl)) (by unfold Func.isWrapper; first | (rw [if_pos (by decide +kernel)]; kernel_rfl) | (rw [if_neg (by decide +kernel)]; exact ⟨rfl, rfl⟩))
    (fun os started H enc _ => lifted os started H enc)
end Go.Proofs.Ytgdcgilhaedbmaa.exactRate
namespace Go.Proofs.Ytgdcgilhaedbmaa
theorem exactRate_proved : Rows.ExactRateSaid := exactRate.over
end Go.Proofs.Ytgdcgilhaedbmaa

