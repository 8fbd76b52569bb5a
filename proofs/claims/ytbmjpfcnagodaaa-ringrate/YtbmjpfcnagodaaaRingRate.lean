/- For every policy and every list of asks the law RingRate returns true: of any Window less one Slot of ticks no more is let in than Limit, and what is refused would make it more in a Window. No condition. -/
import Derived.Test.YtbmjpfcnagodaaaRows
import Derived.Test.YtbmjpfcnagodaaaRingRate0
import Derived.Deep.RegionHeld3
import Derived.Deep.DeepCutAuto
import Derived.BigQuiet
namespace Go.Proofs.Ytbmjpfcnagodaaa.ringRate
open Go.Joins Go.ChangeShapes Go.WideShapes Go.ChangeAt Go.RowKit Go.Deep
set_option linter.unusedVariables false

theorem drewN_add (w : World) (a b : Nat) : (w.drewN a).drewN b = w.drewN (a + b) := World.drewN_drewN w a b
theorem frs {g : Nat} {vT vI : Value} {X Y : Nat} (h : Fr g vT vI X) (hx : X ≤ Y) : Fr g vT vI Y := ⟨Nat.lt_of_lt_of_le h.g hx, fun c hc => Nat.lt_of_lt_of_le (h.t c hc) hx, fun c hc => Nat.lt_of_lt_of_le (h.i c hc) hx⟩
set_option maxRecDepth 100000 in
set_option maxHeartbeats 16000000 in
theorem main (k l v b sl : Int) (A : Option Addr) (len cap : Nat) (fb fw : Nat → Int) (W : World) (hL : len ≤ 40) (hP : RP k l v b sl) (hh : HitsAt W A len fb fw) : Calls Try.prog 6 #[.agg #[.int .i64 k, .int .i64 l, .int .i64 v, .int .i64 b], .slice A len cap] W fun e w' => e = .returned (.bool true) ∧ Below W.heap.size W w' := by
  have CK := Lib.hid (fun u => rCheck_yes k l v b u hP.p)
  have HH := Lib.hid hh
  have HP := Lib.hid hP
  obtain ⟨l1, l2, v1, v2, b1', b2', s1, s2, hv⟩ := hP.bd
  have hsl := hP.s
  have tk : (k != 3) = false := by simp [hP.k3]
  have P0 := Lib.hid (Has.made W 23 [.int .i64 k, .int .i64 l, .int .i64 v, .int .i64 b])
  have Q0 := Lib.hid ((Below.refl W.heap.size W).alloc (Nat.le_refl _) (.cells #[.int .i64 k, .int .i64 l, .int .i64 v, .int .i64 b] 23))
  have ed : v.tdiv b = sl := by rw [tdiv_i (by omega)]; exact hsl
  have bz : (b == 0) = false := by simp; omega
  have esl : IntKind.i64.wrap sl = sl := wrap_i (by omega) (by omega)
  have HV := Lib.hid hv
  clear hh hP hsl hv
  go_enter Try.func6, Try.ntmps6
  go_wp2_with fail
  refine (CK.out _).mono ?_; rintro e w1 ⟨rfl, hb⟩
  have hz : RateAt W k l v b w1.heap.size (w1.heap.size + 1) 0 none 0 0 (fun _ => 0) (.slice none 0 0) (.slice none 0 0) [] [] (w1.alloc (.cells #[.int .i64 0, .int .i64 0, .slice none 0 0, .slice none 0 0] 27)) := by
    have q := P0.out.below hb P0.out.lt
    have q2 : Below W.heap.size W w1 := Q0.out.trans (hb.mono Q0.out.size)
    have q3 := q.lt
    exact ⟨q.alloc _, Has.made w1 27 [.int .i64 0, .int .i64 0, .slice none 0 0, .slice none 0 0], q2.alloc q2.size _, q3, Own1.nil _ _ _, Own1.nil _ _ _, fun c hc => by simp [Value.ownBlock] at hc, Nat.lt_succ_self _, SumsAt.nil _ _ _, fun c hc => absurd hc.1 (by omega)⟩
  obtain ⟨j0, j1, j2, j3⟩ := (P0.out.step hb).four
  clear hb P0 Q0 CK
  go_upto_region 4 with (fail)
  clear j0 j1 j2 j3
  obtain ⟨⟨j0, j1, j2, j3⟩, c0, c1, c2, c3⟩ := hz.cells
  go_wp2_with fail
  clear j0 j1 j2 j3 ed bz c0 c1 c2 c3
  generalize w1.alloc (.cells #[.int .i64 0, .int .i64 0, .slice none 0 0, .slice none 0 0] 27) = w2 at hz ⊢
  generalize w1.heap.size = g at hz ⊢
  have R0 := Lib.hid hz
  clear hz
  go_loopw [6, 8, 9, 10] (fun vt sT sI vi wr => ∃ (j : Nat) (t : Int) (sa : Option Addr) (sn sc : Nat) (f : Nat → Int) (ts xs : List Int) (vT vI : Value), vT = sT ∧ vI = sI ∧ j ≤ len ∧ vi = .int .i64 (j : Int) ∧ vt = .int .i64 t ∧ 0 ≤ t ∧ t ≤ j * 1048576 ∧ Inv l b sl t sn f ts xs j ∧ RateAt W k l v b g (g + 1) t sa sn sc f vT vI ts xs wr) (fun _ _ _ vi _ => len - (intOf vi).toNat)
  case atStart => exact ⟨0, 0, none, 0, 0, fun _ => 0, [], [], _, _, rfl, rfl, Nat.zero_le _, rfl, rfl, by omega, by omega, ⟨rfl, rfl, by simp, fun q hq => absurd hq (by omega), ⟨.inl rfl, fun i hi => absurd hi (by omega), by show (0 : Int) ≤ l; omega⟩, fun X _ => by
    unfold cntV
    rw [csum_zero (fun i _ => by unfold inV; rw [if_pos (.inr (.inr rfl))])]
    rfl⟩, R0.out⟩
  case round =>
    obtain ⟨j, t, sa, sn, sc, f, ts, xs, vT, vI, rfl, rfl, hj, rfl, rfl, t0, t1, hI, hr⟩ := hrel
    have R1 := Lib.hid hr
    have IV := Lib.hid hI
    clear hr R0 hI
    by_cases hlt : j < len
    · obtain ⟨b1, o1, rfl, hb1, hf⟩ := HH.out (by omega)
      obtain ⟨hf1, hf2⟩ := hf j hlt
      clear hf
      generalize fb j = y at hf1
      generalize fw j = m at hf2
      have X1 := Lib.hid hf1
      have X2 := Lib.hid hf2
      have q1 := (R1.out.be.cell (p := ⟨b1, o1 + j * 2, none⟩) hb1).trans hf1
      have q2 := (R1.out.be.cell (p := ⟨b1, o1 + j * 2 + 1, none⟩) hb1).trans hf2
      clear hf1 hf2
      obtain ⟨⟨j0, j1, j2, j3⟩, c0, c1, c2, c3⟩ := R1.out.cells
      by_cases hy : y < 0
      · go_wp2_with fail
        refine (live_any _).mono ?_; rintro e wl ⟨rfl, hb⟩
        have RL := Lib.hid (R1.out.step hb)
        clear hb
        go_wp2_with fail
        go_ret
        exact ⟨rfl, RL.out.be⟩
      by_cases hy2 : 1048576 < y
      · go_wp2_with fail
        refine (live_any _).mono ?_; rintro e wl ⟨rfl, hb⟩
        have RL := Lib.hid (R1.out.step hb)
        clear hb
        go_wp2_with fail
        go_ret
        exact ⟨rfl, RL.out.be⟩
      by_cases hm : 1 ≤ m ∧ m ≤ 1048576
      · obtain ⟨m1, m2⟩ := hm
        have WK := Lib.hid (fun u => rWeighs_yes m u m1 m2)
        go_wp2_with fail
        refine (WK.out _).mono ?_; rintro e w' ⟨rfl, rfl⟩
        have KK := Lib.hid (fun u (hu : SumsAt u sa sn f) => Ask_R0 (t := t + y) (m := m) (ha := none) (sc := sc) (hc := 0) HP.out t0 (by omega) IV.out.may u hu (by omega) (by omega) m1 m2)
        have hT : tmax (t + y) t = t + y := tmax_hi (by omega)
        have IN := Lib.hid (IV.out.next HP.out t0 (show t ≤ t + y by omega) m1 m2)
        have AK := Lib.hid (asked HP.out IV.out t0 (show t ≤ t + y by omega) m1 m2)
        rw [hT] at KK
        clear hT
        have hn16 : b.toNat ≤ 16 := by omega
        generalize rRm l b sl t (t + y) m sn f = rm at *
        generalize rRt l b sl t (t + y) m sn f = rt at *
        generalize rRs l b sl t (t + y) m sn f = rs at *
        generalize rF l b sl t (t + y) m sn f = F at *
        generalize rAl l b sl t (t + y) m sn f = al at *
        generalize b.toNat = n at *
        go_upto_region 14 with (fail)
        obtain ⟨T, hTT⟩ : ∃ T, t + y = T := ⟨_, rfl⟩
        rw [hTT] at KK IN AK ⊢
        have ET := Lib.hid hTT
        clear q1 q2 hTT
        clear j0 j1 j2 j3 c0 c1 c2 c3
        have R2 := R1
        clear R1
        have B0 : (0 : Int) ≤ (j : Int) := by omega
        have B1 : (j : Int) < (len : Int) := by omega
        go_cut [11, 12] from 37 to 176 (fun s9 s10 wx => Got W k l v b g (g + 1) t sa sn sc f vT vI ts xs T n F al rm rt rs s9 s10 wx)
        case first =>
          have G2 := Lib.hid R2.out.fr
          have G3 := Lib.hid R2.out.fr.next
          have L2 := Lib.hid R2.out.sl
          have L3 := Lib.hid (fun c hc => Nat.lt_succ_of_lt (R2.out.sl c hc))
          go_region_held3 (fun w' => ((w'.cell? ⟨W.heap.size, 0, none⟩ = some (.int .i64 k) ∧ w'.cell? ⟨W.heap.size, 1, none⟩ = some (.int .i64 l) ∧ w'.cell? ⟨W.heap.size, 2, none⟩ = some (.int .i64 v) ∧ w'.cell? ⟨W.heap.size, 3, none⟩ = some (.int .i64 b)) ∧ w'.cell? ⟨g, 0, none⟩ = some (.int .i64 t) ∧ w'.cell? ⟨g, 1, none⟩ = some (.int .i64 0) ∧ w'.cell? ⟨g, 2, none⟩ = some (.slice sa sn sc) ∧ w'.cell? ⟨g, 3, none⟩ = some (.slice none 0 0)) ∧ w'.cell? ⟨b1, o1 + j * 2 + 1, none⟩ = some (.int .i64 m)) (first | (with_reducible exact R2.out.rd hb1 X2.out) | (with_reducible exact R2.out.drew.rd hb1 X2.out) | (with_reducible exact (R2.out.alloc (.cells #[.int .i64 0, .int .i64 0, .slice none 0 0, .slice none 0 0] 27)).rd hb1 X2.out) | (with_reducible exact (R2.out.alloc (.cells #[.int .i64 0, .int .i64 0, .slice none 0 0, .slice none 0 0] 27)).drew.rd hb1 X2.out) | (with_reducible exact (R2.out.drew.alloc (.cells #[.int .i64 0, .int .i64 0, .slice none 0 0, .slice none 0 0] 27)).rd hb1 X2.out) | (with_reducible exact (R2.out.alloc (.cells #[.bool false, .int .i64 0, .int .i64 0, .int .i64 0] 32)).rd hb1 X2.out) | (with_reducible exact (R2.out.alloc (.cells #[.bool false, .int .i64 0, .int .i64 0, .int .i64 0] 32)).drew.rd hb1 X2.out) | (with_reducible exact (R2.out.drew.alloc (.cells #[.bool false, .int .i64 0, .int .i64 0, .int .i64 0] 32)).rd hb1 X2.out) | (with_reducible exact ((R2.out.alloc (.cells #[.int .i64 0, .int .i64 0, .slice none 0 0, .slice none 0 0] 27)).alloc (.cells #[.bool false, .int .i64 0, .int .i64 0, .int .i64 0] 32)).rd hb1 X2.out) | (with_reducible exact ((R2.out.alloc (.cells #[.int .i64 0, .int .i64 0, .slice none 0 0, .slice none 0 0] 27)).alloc (.cells #[.bool false, .int .i64 0, .int .i64 0, .int .i64 0] 32)).drew.rd hb1 X2.out) | (with_reducible exact ((R2.out.alloc (.cells #[.bool false, .int .i64 0, .int .i64 0, .int .i64 0] 32)).alloc (.cells #[.int .i64 0, .int .i64 0, .slice none 0 0, .slice none 0 0] 27)).rd hb1 X2.out) | (with_reducible exact ((R2.out.alloc (.cells #[.bool false, .int .i64 0, .int .i64 0, .int .i64 0] 32)).alloc (.cells #[.int .i64 0, .int .i64 0, .slice none 0 0, .slice none 0 0] 27)).drew.rd hb1 X2.out) | (with_reducible exact R5.out.rd hb1 X2.out) | (with_reducible exact (R5.out.alloc _).rd hb1 X2.out) | (with_reducible exact ((R5.out.alloc _).alloc _).rd hb1 X2.out) | (with_reducible exact (R5.out.set4 G2.out L2.out _ _ _ _).rd hb1 X2.out) | (with_reducible exact ((R5.out.set4 G2.out L2.out _ _ _ _).alloc _).rd hb1 X2.out) | (with_reducible exact (R5.out.set4 G3.out L3.out _ _ _ _).rd hb1 X2.out) | (with_reducible exact ((R5.out.set4 G3.out L3.out _ _ _ _).alloc _).rd hb1 X2.out) | (with_reducible exact ((R5.out.set4 G2.out L2.out _ _ _ _).set4 G3.out L3.out _ _ _ _).rd hb1 X2.out) | (with_reducible exact ((R5.out.set4 G3.out L3.out _ _ _ _).set4 G2.out L2.out _ _ _ _).rd hb1 X2.out) | go_keep) (first | (go_at_call 10; (with_reducible refine (KK.out _ (R2.out.drew).s).mono ?_); rintro e w5 ⟨gS, rfl, hg, hs, hb⟩; have R5 := Lib.hid ((R2.out.drew).step hb); have HFrame9 := Lib.hid (frs (R2.out.drew).fr hg); have S5 := Lib.hid hs; have GS := Lib.hid hg; clear hs hg hb) | (go_at_call 10; (with_reducible refine (KK.out _ ((R2.out.alloc (.cells #[.int .i64 0, .int .i64 0, .slice none 0 0, .slice none 0 0] 27)).drew).s).mono ?_); rintro e w5 ⟨gS, rfl, hg, hs, hb⟩; have R5 := Lib.hid (((R2.out.alloc (.cells #[.int .i64 0, .int .i64 0, .slice none 0 0, .slice none 0 0] 27)).drew).step hb); have N9 := Lib.hid ((has_drew (Has.made wr 27 [.int .i64 0, .int .i64 0, .slice none 0 0, .slice none 0 0])).step hb); obtain ⟨n90, n91, n92, n93⟩ := N9.out.four; have n9f := N9.out.loose; have n9l := N9.out.lt; have HFrame9 := Lib.hid (frs ((R2.out.alloc (.cells #[.int .i64 0, .int .i64 0, .slice none 0 0, .slice none 0 0] 27)).drew).fr hg); have S5 := Lib.hid hs; have GS := Lib.hid hg; clear hs hg hb) | (go_at_call 10; (with_reducible refine (KK.out _ ((R2.out.alloc (.cells #[.bool false, .int .i64 0, .int .i64 0, .int .i64 0] 32)).drew).s).mono ?_); rintro e w5 ⟨gS, rfl, hg, hs, hb⟩; have R5 := Lib.hid (((R2.out.alloc (.cells #[.bool false, .int .i64 0, .int .i64 0, .int .i64 0] 32)).drew).step hb); have N10 := Lib.hid ((has_drew (Has.made wr 32 [.bool false, .int .i64 0, .int .i64 0, .int .i64 0])).step hb); obtain ⟨n100, n101, n102, n103⟩ := N10.out.four; have n10f := N10.out.loose; have n10l := N10.out.lt; have HFrame9 := Lib.hid (frs ((R2.out.alloc (.cells #[.bool false, .int .i64 0, .int .i64 0, .int .i64 0] 32)).drew).fr hg); have S5 := Lib.hid hs; have GS := Lib.hid hg; clear hs hg hb) | (go_at_call 10; (with_reducible refine (KK.out _ (((R2.out.alloc (.cells #[.int .i64 0, .int .i64 0, .slice none 0 0, .slice none 0 0] 27)).alloc (.cells #[.bool false, .int .i64 0, .int .i64 0, .int .i64 0] 32)).drew).s).mono ?_); rintro e w5 ⟨gS, rfl, hg, hs, hb⟩; have R5 := Lib.hid ((((R2.out.alloc (.cells #[.int .i64 0, .int .i64 0, .slice none 0 0, .slice none 0 0] 27)).alloc (.cells #[.bool false, .int .i64 0, .int .i64 0, .int .i64 0] 32)).drew).step hb); have N9 := Lib.hid ((has_drew ((Has.made wr 27 [.int .i64 0, .int .i64 0, .slice none 0 0, .slice none 0 0]).alloc (.cells #[.bool false, .int .i64 0, .int .i64 0, .int .i64 0] 32))).step hb); obtain ⟨n90, n91, n92, n93⟩ := N9.out.four; have n9f := N9.out.loose; have n9l := N9.out.lt; have N10 := Lib.hid ((has_drew (made10 wr 32 [.bool false, .int .i64 0, .int .i64 0, .int .i64 0] (.cells #[.int .i64 0, .int .i64 0, .slice none 0 0, .slice none 0 0] 27))).step hb); obtain ⟨n100, n101, n102, n103⟩ := N10.out.four; have n10f := N10.out.loose; have n10l := N10.out.lt; have HFrame9 := Lib.hid (frs (((R2.out.alloc (.cells #[.int .i64 0, .int .i64 0, .slice none 0 0, .slice none 0 0] 27)).alloc (.cells #[.bool false, .int .i64 0, .int .i64 0, .int .i64 0] 32)).drew).fr hg); have S5 := Lib.hid hs; have GS := Lib.hid hg; clear hs hg hb) | (go_at_call 10; (with_reducible refine (KK.out _ (((R2.out.alloc (.cells #[.bool false, .int .i64 0, .int .i64 0, .int .i64 0] 32)).alloc (.cells #[.int .i64 0, .int .i64 0, .slice none 0 0, .slice none 0 0] 27)).drew).s).mono ?_); rintro e w5 ⟨gS, rfl, hg, hs, hb⟩; have R5 := Lib.hid ((((R2.out.alloc (.cells #[.bool false, .int .i64 0, .int .i64 0, .int .i64 0] 32)).alloc (.cells #[.int .i64 0, .int .i64 0, .slice none 0 0, .slice none 0 0] 27)).drew).step hb); have N10 := Lib.hid ((has_drew ((Has.made wr 32 [.bool false, .int .i64 0, .int .i64 0, .int .i64 0]).alloc (.cells #[.int .i64 0, .int .i64 0, .slice none 0 0, .slice none 0 0] 27))).step hb); obtain ⟨n100, n101, n102, n103⟩ := N10.out.four; have n10f := N10.out.loose; have n10l := N10.out.lt; have N9 := Lib.hid ((has_drew (made10 wr 27 [.int .i64 0, .int .i64 0, .slice none 0 0, .slice none 0 0] (.cells #[.bool false, .int .i64 0, .int .i64 0, .int .i64 0] 32))).step hb); obtain ⟨n90, n91, n92, n93⟩ := N9.out.four; have n9f := N9.out.loose; have n9l := N9.out.lt; have HFrame9 := Lib.hid (frs (((R2.out.alloc (.cells #[.bool false, .int .i64 0, .int .i64 0, .int .i64 0] 32)).alloc (.cells #[.int .i64 0, .int .i64 0, .slice none 0 0, .slice none 0 0] 27)).drew).fr hg); have S5 := Lib.hid hs; have GS := Lib.hid hg; clear hs hg hb))
          all_goals (go_wp2_with fail; go_meet)
          all_goals first | (with_reducible exact got0 R5.out S5.out HFrame9.out) | (with_reducible exact got1 R5.out S5.out HFrame9.out) | (with_reducible exact got2 R5.out S5.out HFrame9.out N9.out G2.out L2.out (by have := GS.out; simp at this; omega)) | (with_reducible exact got3 R5.out S5.out HFrame9.out N10.out G2.out L2.out (by have := GS.out; simp at this; omega)) | (with_reducible exact got4 R5.out S5.out HFrame9.out N9.out N10.out G2.out G3.out L2.out L3.out (ne1 _) (by have := GS.out; simp at this; omega) (by have := GS.out; simp at this; omega)) | (with_reducible exact got4 R5.out S5.out HFrame9.out N9.out N10.out G3.out G2.out L3.out L2.out (ne2 _) (by have := GS.out; simp at this; omega) (by have := GS.out; simp at this; omega))
        case rest =>
        obtain ⟨g9, g10, gS, rfl, rfl, hr, h9, h10, l9, l10, hS, lS⟩ := hcut
        clear KK R2
        obtain ⟨⟨j0, j1, j2, j3⟩, c0, c1, c2, c3⟩ := hr.cells
        obtain ⟨a0, a1, a2, a3⟩ := h9.four
        have cf := hr.c.loose
        have n9 : g9 ≠ g := by have := l9.g; omega
        have n9' : g ≠ g9 := by omega
        have HZ := Lib.hid (hr.upd (T := T) hS (by have := lS.g; omega) (fun e => by have := lS.t gS e; omega) (fun e => by have := lS.i gS e; omega))
        have HY := Lib.hid (show Has ((((wc.setCell ⟨g, 0, none⟩ (.int .i64 T)).setCell ⟨g, 1, none⟩ (.int .i64 0)).setCell ⟨g, 2, none⟩ (.slice (some ⟨gS, 0, none⟩) n n)).setCell ⟨g, 3, none⟩ (.slice none 0 0)) g10 32 [.bool al, .int .i64 rm, .int .i64 rt, .int .i64 rs] from has_set4 h10 (by have := l10.g; omega) _ _ _ _)
        have F10 := Lib.hid l10
        clear hr h9 h10 l9 l10 hS lS
        go_upto_region 16 with (fail)
        clear j0 j1 j2 j3 c0 c1 c2 c3
        clear a0 a1 a2 a3 cf n9 n9'
        generalize ((((wc.setCell ⟨g, 0, none⟩ (.int .i64 T)).setCell ⟨g, 1, none⟩ (.int .i64 0)).setCell ⟨g, 2, none⟩ (.slice (some ⟨gS, 0, none⟩) n n)).setCell ⟨g, 3, none⟩ (.slice none 0 0)) = wd at HZ HY ⊢
        have LT := Lib.hid (show (iv ts).length = j by rw [iv_len]; exact IV.out.lt)
        have LI := Lib.hid (show (iv xs).length = j by rw [iv_len]; exact IV.out.lx)
        have SZ := Lib.hid (show g + 1 ≤ wd.heap.size from HZ.out.c.lt)
        have OT := Lib.hid HZ.out.oT
        obtain ⟨AT, cT, hvT⟩ := HZ.out.oT.sl
        rw [iv_len, IV.out.lt] at hvT
        subst hvT
        go_wp2_with (at_builtin; refine wpList_append_own1 wd wd.heap.size rfl rfl _ _ 24 rfl 3 (.int .i64 0) 8 Try.underlying24 infoI rfl (by decide) _ (.int .i64 T) (iv ts) j LT.out rfl rfl rfl OT.out SZ.out (by omega) ?_)
        intro g7 cap7 w7 ho hk hg hgl
        have R7 := Lib.hid (HZ.out.appT (z := T) (vT' := .slice (some ⟨g7, 0, none⟩) (j + 1) cap7) (g7 := g7) rfl ho hk hg)
        have Y7 := Lib.hid (has_kept HY.out hk (fun e => by have := F10.out.t g10 e; omega))
        clear ho hk hg hgl HZ HY OT SZ
        obtain ⟨⟨j0, j1, j2, j3⟩, c0, c1, c2, c3⟩ := R7.out.cells
        obtain ⟨u0, u1, u2, u3⟩ := Y7.out.four
        have q2 := (R7.out.be.cell (p := ⟨b1, o1 + j * 2 + 1, none⟩) hb1).trans X2.out
        have SZ7 := Lib.hid (show g + 1 ≤ w7.heap.size from R7.out.c.lt)
        go_upto_if 92 with (fail)
        go_cut [13] from 37 to 176 (fun s13 wx => s13 = .int .i64 (if al = true then m else 0) ∧ w7 = wx)
        case first =>
          cases al
          · go_wp2_with fail
            go_meet
            exact ⟨rfl, rfl⟩
          · go_wp2_with fail
            go_meet
            exact ⟨rfl, rfl⟩
        case rest =>
        obtain ⟨rfl, rfl⟩ := hcut
        obtain ⟨LL, hLL⟩ : ∃ LL, (if al = true then m else 0) = LL := ⟨_, rfl⟩
        rw [hLL] at IN AK ⊢
        clear hLL
        have OI := Lib.hid R7.out.oI
        obtain ⟨AI, cI, hvI⟩ := R7.out.oI.sl
        rw [iv_len, IV.out.lx] at hvI
        subst hvI
        go_wp2_with (at_builtin; refine wpList_append_own1 w7 w7.heap.size rfl rfl _ _ 24 rfl 3 (.int .i64 0) 8 Try.underlying24 infoI rfl (by decide) _ (.int .i64 LL) (iv xs) j LI.out rfl rfl rfl OI.out SZ7.out (by omega) ?_)
        intro g8 cap8 w8 ho hk hg hgl
        have hr := R7.out.appI (z := LL) (vI' := .slice (some ⟨g8, 0, none⟩) (j + 1) cap8) (g7 := g8) rfl ho hk hg
        have Y8 := Lib.hid (has_kept Y7.out hk (fun e => by have := F10.out.i g10 e; omega))
        clear ho hk hg hgl
        clear j0 j1 j2 j3 c0 c1 c2 c3
        clear u0 u1 u2 u3 q2 R7 Y7 SZ7 LT LI F10 IV OI
        generalize xs ++ [LL] = XS at hr IN AK
        generalize ts ++ [T] = TS at hr IN AK
        obtain ⟨gI, cI', eI, lI, mI, _, fI⟩ := own_at hr.oI (by intro e; have := IN.out.lx; rw [e] at this; simp at this)
        obtain ⟨gT, cT', eT, lT, mT, _, fT⟩ := own_at hr.oT (by intro e; have := IN.out.lt; rw [e] at this; simp at this)
        rw [IN.out.lx] at lI fI eI
        rw [IN.out.lt] at lT fT eT
        simp only [Value.slice.injEq, Option.some.injEq, Addr.mk.injEq, and_true, true_and] at eT eI
        obtain ⟨rfl, rfl⟩ := eT
        obtain ⟨rfl, rfl⟩ := eI
        have R8 := Lib.hid hr
        have FI := Lib.hid fI
        have FT := Lib.hid fT
        unfold maxLen at mI mT
        clear hr fI fT
        have TB : T ≤ 41943040 := by have := ET.out; omega
        have TB0 : 0 ≤ T := by have := ET.out; omega
        go_wp2_with fail
        go_loopw [14, 15, 16] (fun ss sl' sk wx => ∃ q : Nat, q ≤ j + 1 ∧ sk = .int .i64 (q : Int) ∧ ss = .int .i64 (sumC (inS v b sl T TS) XS q) ∧ sl' = .int .i64 (sumC (inL v T TS) XS q) ∧ ∃ d, wx = w8.drewN d) (fun _ _ sk _ => j + 1 - (intOf sk).toNat)
        case atStart => exact ⟨0, Nat.zero_le _, rfl, rfl, rfl, 0, rfl⟩
        case round =>
          obtain ⟨q, hq, rfl, rfl, rfl, d, rfl⟩ := hrel
          obtain ⟨⟨j0, j1, j2, j3⟩, c0, c1, c2, c3⟩ := R8.out.cells
          obtain ⟨sb1, sb2⟩ := sumC_bd (p := inS v b sl T TS) IN.out.bx q (by rw [IN.out.lx]; exact hq)
          obtain ⟨lb1, lb2⟩ := sumC_bd (p := inL v T TS) IN.out.bx q (by rw [IN.out.lx]; exact hq)
          by_cases hlt2 : q < j + 1
          · have d1 := FI.out q (by omega)
            have d2' := FT.out q (by omega)
            have hx := getD_bx IN.out.bx (show q < XS.length by rw [IN.out.lx]; omega)
            have ht := IN.out.bt q (by omega)
            obtain ⟨hx1, hx2⟩ := hx
            obtain ⟨ht1, ht2⟩ := ht
            have HS1 := Lib.hid (show sumC (inS v b sl T TS) XS (q + 1) = sumC (inS v b sl T TS) XS q + if inS v b sl T TS q = true then XS.getD q 0 else 0 from rfl)
            have HL1 := Lib.hid (show sumC (inL v T TS) XS (q + 1) = sumC (inL v T TS) XS q + if inL v T TS q = true then XS.getD q 0 else 0 from rfl)
            have PS := Lib.hid (show inS v b sl T TS q = decide (T - v + sl < TS.getD q 0 ∨ (b = 1 ∧ TS.getD q 0 / sl = T / sl)) from rfl)
            have PL := Lib.hid (show inL v T TS q = decide (T - v < TS.getD q 0) from rfl)
            have qb := div_bd ht1 s1
            have mb := div_bd TB0 s1
            obtain ⟨qb1, qb2⟩ := qb
            obtain ⟨mb1, mb2⟩ := mb
            have f1 : (TS.getD q 0).tdiv sl = TS.getD q 0 / sl := tdiv_i ht1
            have f2 : T.tdiv sl = T / sl := tdiv_i TB0
            have f3 : IntKind.i64.wrap (TS.getD q 0 / sl) = TS.getD q 0 / sl := wrap_i (by omega) (by omega)
            have f4 : IntKind.i64.wrap (T / sl) = T / sl := wrap_i (by omega) (by omega)
            have f5 : IntKind.i64.wrap (T - v) = T - v := wrap_i (by omega) (by omega)
            have f6 : IntKind.i64.wrap (T - v + sl) = T - v + sl := wrap_i (by omega) (by omega)
            have sz : (sl == 0) = false := by simp; omega
            have sz2 : ¬ sl = 0 := by omega
            generalize sumC (inS v b sl T TS) XS q = S1 at *
            generalize sumC (inL v T TS) XS q = L1 at *
            generalize inS v b sl T TS q = pS at *
            generalize inL v T TS q = pL at *
            generalize XS.getD q 0 = xr at *
            generalize hqt : TS.getD q 0 / sl = QT at *
            generalize hqm : T / sl = QM at *
            generalize TS.getD q 0 = tr at *
            clear hqt hqm
            have B0' : (0 : Int) ≤ (q : Int) := by omega
            have B1' : (q : Int) < ((j + 1 : Nat) : Int) := by omega
            go_upto_region 26 with (fail)
            go_cut [134] from 102 to 155 (fun s134 wx => s134 = .bool pS ∧ ∃ d2, wx = w8.drewN d2)
            case first =>
              by_cases hA : T - v + sl < tr
              · have dA : decide (T - v + sl < tr) = true := by simp; omega
                go_quiet (fail)
                go_wp2_with fail
                go_meet
                exact ⟨by rw [PS.out, decide_eq_true (.inl hA)], d + nq, by first | rfl | exact drewN_add _ _ _⟩
              · have dA : decide (T - v + sl < tr) = false := by simp; omega
                by_cases hb : b = 1
                · have dB : (b == 1) = true := by simp [hb]
                  have HBQ := Lib.hid hb
                  clear hb
                  by_cases hC : QT = QM
                  · have dC : (QT == QM) = true := by simp [hC]
                    have HCQ := Lib.hid hC
                    clear hC
                    go_quiet (fail)
                    go_wp2_with fail
                    go_meet
                    exact ⟨by rw [PS.out, decide_eq_true (.inr ⟨HBQ.out, HCQ.out⟩)], d + nq, by first | rfl | exact drewN_add _ _ _⟩
                  · have dC : (QT == QM) = false := by simp [hC]
                    go_quiet (fail)
                    go_wp2_with fail
                    go_meet
                    exact ⟨by rw [PS.out, decide_eq_false (by omega)], d + nq, by first | rfl | exact drewN_add _ _ _⟩
                · have dB : (b == 1) = false := by simp [hb]
                  go_quiet (fail)
                  go_wp2_with fail
                  go_meet
                  exact ⟨by rw [PS.out, decide_eq_false (by omega)], d + nq, by first | rfl | exact drewN_add _ _ _⟩
            case rest =>
            obtain ⟨rfl, d3, rfl⟩ := hcut
            clear PS f1 f2 f3 f4 f6 sz sz2
            by_cases hLL2 : T - v < tr
            · have dL : decide (T - v < tr) = true := by simp; omega
              have eL : pL = true := by rw [PL.out]; exact decide_eq_true hLL2
              cases pS
              · go_wp2_with fail
                go_quiet (fail)
                go_wp2_with fail
                go_roundw
                case rel => exact ⟨q + 1, by omega, by go_num, by rw [HS1.out]; simp, by rw [HL1.out, if_pos eL], d3 + nq, by first | rfl | exact drewN_add _ _ _⟩
                case measure => simp [intOf]; omega
              · go_wp2_with fail
                go_quiet (fail)
                go_wp2_with fail
                go_roundw
                case rel => exact ⟨q + 1, by omega, by go_num, by rw [HS1.out]; simp, by rw [HL1.out, if_pos eL], d3 + nq, by first | rfl | exact drewN_add _ _ _⟩
                case measure => simp [intOf]; omega
            · have dL : decide (T - v < tr) = false := by simp; omega
              have eL : ¬ pL = true := by rw [PL.out]; simp; omega
              cases pS
              · go_wp2_with fail
                go_quiet (fail)
                go_wp2_with fail
                go_roundw
                case rel => exact ⟨q + 1, by omega, by go_num, by rw [HS1.out]; simp, by rw [HL1.out, if_neg eL, Int.add_zero], d3 + nq, by first | rfl | exact drewN_add _ _ _⟩
                case measure => simp [intOf]; omega
              · go_wp2_with fail
                go_quiet (fail)
                go_wp2_with fail
                go_roundw
                case rel => exact ⟨q + 1, by omega, by go_num, by rw [HS1.out]; simp, by rw [HL1.out, if_neg eL, Int.add_zero], d3 + nq, by first | rfl | exact drewN_add _ _ _⟩
                case measure => simp [intOf]; omega
          · have e : q = j + 1 := by omega
            subst e
            obtain ⟨k1, k2⟩ := AK.out
            obtain ⟨u0, u1, u2, u3⟩ := Y8.out.four
            have q2 := (R8.out.be.cell (p := ⟨b1, o1 + j * 2 + 1, none⟩) hb1).trans X2.out
            have RR := Lib.hid (fun d => R8.out.drewN d)
            generalize sumC (inS v b sl T TS) XS (j + 1) = S1 at *
            generalize sumC (inL v T TS) XS (j + 1) = L1 at *
            have dS : decide (l < S1) = false := by simp; omega
            have B0' : (0 : Int) ≤ (j : Int) := by omega
            have B1' : (j : Int) < (len : Int) := by omega
            cases al
            · have k3 := k2 rfl
              have e9 : IntKind.i64.wrap (L1 + m) = L1 + m := wrap_i (by omega) (by omega)
              have dM : decide (L1 + m ≤ l) = false := by simp; omega
              go_wp2_with fail
              go_quiet (fail)
              go_wp2_with fail
              go_roundw
              case rel => exact ⟨j + 1, T, some ⟨gS, 0, none⟩, n, n, F, TS, XS, _, _, rfl, rfl, by omega, by go_num, rfl, TB0, by have := ET.out; omega, IN.out, RR.out _⟩
              case measure => simp [intOf]; omega
            · clear k2
              go_wp2_with fail
              go_quiet (fail)
              go_wp2_with fail
              go_roundw
              case rel => exact ⟨j + 1, T, some ⟨gS, 0, none⟩, n, n, F, TS, XS, _, _, rfl, rfl, by omega, by go_num, rfl, TB0, by have := ET.out; omega, IN.out, RR.out _⟩
              case measure => simp [intOf]; omega
      · have WK := Lib.hid (fun u => rWeighs_no m u hm)
        clear hm
        go_wp2_with fail
        refine (WK.out _).mono ?_; rintro e w' ⟨rfl, rfl⟩
        go_wp2_with fail
        refine (live_any _).mono ?_; rintro e wl ⟨rfl, hb⟩
        have RL := Lib.hid (R1.out.step hb)
        clear hb
        go_wp2_with fail
        go_ret
        exact ⟨rfl, RL.out.be⟩
    · go_wp2_with fail
      refine (live_any _).mono ?_; rintro e wl ⟨rfl, hb⟩
      have RL := Lib.hid (R1.out.step hb)
      clear hb
      go_wp2_with fail
      go_ret
      exact ⟨rfl, RL.out.be⟩

set_option maxRecDepth 100000 in
theorem e0 (k l v b : Int) (A : Option Addr) (len cap : Nat) (W : World) (hL : 40 < len) (hM : len ≤ maxLen) :
    Calls Try.prog 6 #[.agg #[.int .i64 k, .int .i64 l, .int .i64 v, .int .i64 b], .slice A len cap] W fun e w' => e = .returned (.bool true) ∧ Below W.heap.size W w' := by
  unfold maxLen at hM
  have Q0 := Lib.hid ((Below.refl W.heap.size W).alloc (Nat.le_refl _) (.cells #[.int .i64 k, .int .i64 l, .int .i64 v, .int .i64 b] 23))
  go_enter Try.func6, Try.ntmps6
  go_wp2_with fail
  refine (live_any _).mono ?_; rintro e wl ⟨rfl, hb⟩
  have Q1 := Lib.hid (Q0.out.trans (hb.mono Q0.out.size))
  clear hb
  go_wp2_with fail
  go_ret
  exact ⟨rfl, Q1.out⟩
set_option maxRecDepth 100000 in
theorem e1 (k l v b : Int) (A : Option Addr) (len cap : Nat) (W : World) (hL : len ≤ 40) (hP : ¬ MayP k l v b) :
    Calls Try.prog 6 #[.agg #[.int .i64 k, .int .i64 l, .int .i64 v, .int .i64 b], .slice A len cap] W fun e w' => e = .returned (.bool true) ∧ Below W.heap.size W w' := by
  have CK := Lib.hid (fun u => rCheck_no k l v b u hP)
  have Q0 := Lib.hid ((Below.refl W.heap.size W).alloc (Nat.le_refl _) (.cells #[.int .i64 k, .int .i64 l, .int .i64 v, .int .i64 b] 23))
  clear hP
  go_enter Try.func6, Try.ntmps6
  go_wp2_with fail
  refine (CK.out _).mono ?_; rintro e w1 ⟨rfl, hb⟩
  have Q1 := Lib.hid (Q0.out.trans (hb.mono Q0.out.size))
  clear hb
  go_wp2_with fail
  refine (live_any _).mono ?_; rintro e wl ⟨rfl, hb⟩
  have Q2 := Lib.hid (Q1.out.trans (hb.mono Q1.out.size))
  clear hb
  go_wp2_with fail
  go_ret
  exact ⟨rfl, Q2.out⟩
set_option maxRecDepth 100000 in
theorem e2 (k l v b : Int) (A : Option Addr) (len cap : Nat) (W : World) (hL : len ≤ 40) (hP : MayP k l v b) (hk : ¬ k = 3) :
    Calls Try.prog 6 #[.agg #[.int .i64 k, .int .i64 l, .int .i64 v, .int .i64 b], .slice A len cap] W fun e w' => e = .returned (.bool true) ∧ Below W.heap.size W w' := by
  have CK := Lib.hid (fun u => rCheck_yes k l v b u hP)
  have tk : (k != 3) = true := by simp [hk]
  have Q0 := Lib.hid ((Below.refl W.heap.size W).alloc (Nat.le_refl _) (.cells #[.int .i64 k, .int .i64 l, .int .i64 v, .int .i64 b] 23))
  have P0 := Lib.hid (Has.made W 23 [.int .i64 k, .int .i64 l, .int .i64 v, .int .i64 b])
  clear hP hk
  go_enter Try.func6, Try.ntmps6
  go_wp2_with fail
  refine (CK.out _).mono ?_; rintro e w1 ⟨rfl, hb⟩
  have Q1 := Lib.hid (Q0.out.trans (hb.mono Q0.out.size))
  obtain ⟨j0, j1, j2, j3⟩ := (P0.out.step hb).four
  clear hb
  go_wp2_with fail
  refine (live_any _).mono ?_; rintro e wl ⟨rfl, hb⟩
  have Q2 := Lib.hid (Q1.out.trans (hb.mono Q1.out.size))
  clear hb
  go_wp2_with fail
  go_ret
  exact ⟨rfl, Q2.out⟩

theorem walk (k l v b : Int) (A : Option Addr) (len cap : Nat) (h0 : (Lit.int .i64 k).wf = true) (h1 : (Lit.int .i64 l).wf = true) (h2 : (Lit.int .i64 v).wf = true) (h3 : (Lit.int .i64 b).wf = true) {W : World} (hc : IsHits W A len cap) : Calls Try.prog 6 #[.agg #[.int .i64 k, .int .i64 l, .int .i64 v, .int .i64 b], .slice A len cap] W fun e w' => e = .returned (.bool true) ∧ Below W.heap.size W w' := by
  obtain ⟨f, h, hh⟩ := hc.at_
  by_cases hL : len ≤ 40
  · by_cases hP : MayP k l v b
    · by_cases hk : k = 3
      · exact main k l v b _ A len cap f h W hL ⟨hP, hk, rfl⟩ hh
      · exact e2 k l v b A len cap W hL hP hk
    · exact e1 k l v b A len cap W hL hP
  · exact e0 k l v b A len cap W (by omega) (Nat.le_trans hc.1 hc.2.1)

theorem own : ownKnob Try.prog.godebug = none := by kernel_rfl
theorem laidOut : laidOutB Try.prog = true := by kernel_rfl
theorem contract (H : Type) (enc : TypeId × Value → H) (W : World) (base : Nat) (args : Array Value) (ds gs : List (DataW H)) (before : List MemPlace)
    (hval : ∀ (j : Nat) t v, Try.f6.params[j]? = some t → args[j]? = some v → Value.okWide Try.prog W .any base t v)
    (hW : DataW.Whole enc Try.prog Try.f6.params.toList Rows.ringRateSpec.vars false W args.toList ds gs before) :
    Calls Try.prog 6 args W fun e W' => ∃ v, e = .returned v ∧ Rows.ringRateSpec.post enc Try.prog Try.f6 false true false false W args v W' := by
  have hW' := hW
  obtain ⟨p, q, hA0, hV, rfl, hfz, hnd⟩ := hW
  have hA : DataW.TrodAll enc Try.prog W 0 (fun _ => true) true Try.f6.params.toList args.toList ds p := hA0
  rw [Try.params6] at hA hval
  obtain ⟨v0, vs0, d0, ds0, p0, q0, hargs, rfl, rfl, h0, r0⟩ := trodAll_cons hA
  obtain ⟨v1, vs1, d1, ds1, p1, q1, rfl, rfl, rfl, h1, r1⟩ := trodAll_cons r0
  obtain ⟨rfl, rfl, rfl⟩ := trodAll_nil r1
  obtain rfl : args = #[v0, v1] := by cases args; simp_all
  obtain ⟨rfl, rfl⟩ := trodVars_none hV
  have k0 := h0
  have lt0 : ∀ x ∈ p0, x.block < W.heap.size := by obtain ⟨m, hm⟩ := k0; exact DataW.trod_lt m _ _ _ hm
  obtain ⟨p0_k, p0_l, p0_v, p0_b, rfl, wp0_k, wp0_l, wp0_v, wp0_b⟩ := open_pol (hval 0 23 v0 rfl rfl) h0
  have k1 := h1
  have lt1 : ∀ x ∈ p1, x.block < W.heap.size := by obtain ⟨m, hm⟩ := k1; exact DataW.trod_lt m _ _ _ hm
  obtain ⟨a1, len1, cap1, rfl, w1⟩ := open_ops (hval 1 41 v1 rfl rfl) h1
  clear hA0
  refine (walk p0_k p0_l p0_v p0_b a1 len1 cap1 wp0_k wp0_l wp0_v wp0_b w1).mono fun e W' ⟨he, bel⟩ => ?_
  subst he
  exact ⟨_, rfl, _, _, _, [], _, [], hW', trodAll_mk1 (shut_bool Try.underlying4 _), (trodAll_cons_mk (Below.trod laidOut (by kernel_rfl) (of_decide_eq_true (by kernel_rfl)) k0 bel lt0) (trodAll_cons_mk (Below.trod laidOut (by kernel_rfl) (of_decide_eq_true (by kernel_rfl)) k1 bel lt1) trodAll_mk0)), rfl, bel.frame _, fun h => by cases h⟩

set_option maxRecDepth 100000 in
theorem lifted (os : Os) (started : os.Started) (H : Type) (enc : TypeId × Value → H) :
    ReturnsInHanded {} Try.checked os 6 .any (Rows.ringRateSpec.pre6 enc Try.prog Try.f6 Rows.ringRateRow.domain false) (Rows.ringRateSpec.post enc Try.prog Try.f6 false true false false) := by
  refine returnsInHanded_of_change (C := Try.checked) own started (by kernel_rfl) Try.func6
    (ChangeSpec.witness6 (enc := enc) (C := Try.checked) false ⟨#[], #[.agg #[.int .i64 0, .int .i64 0, .int .i64 0, .int .i64 0], .slice none 0 0], []⟩ 8 (by kernel_rfl) (by kernel_rfl) (by kernel_rfl) (by kernel_rfl)) ?_
  intro W base args ds gs before hval hW _ _
  exact contract H enc W base args ds gs before hval hW

theorem over : Rows.ringRateRow.holds Try.pinned (OpenSpec.ofChange Rows.ringRateSpec) :=
  OpenClaim.holds_of_wide 6 Try.f6 rfl rfl rfl rfl rfl rfl rfl ⟨rfl, rfl, rfl, rfl, rfl⟩ rfl rfl rfl rfl rfl (by kernel_rfl) Try.func6 (by kernel_rfl)
    (of_decide_eq_true (by kernel_rfl)) (by unfold Func.isWrapper; first | (rw [if_pos (by decide +kernel)]; kernel_rfl) | (rw [if_neg (by decide +kernel)]; exact ⟨rfl, rfl⟩))
    (fun os started H enc _ => lifted os started H enc)
end Go.Proofs.Ytbmjpfcnagodaaa.ringRate
namespace Go.Proofs.Ytbmjpfcnagodaaa
theorem ringRate_proved : Rows.RingRateSaid := ringRate.over
end Go.Proofs.Ytbmjpfcnagodaaa

