/- For all widths, values and words the law BitsAgain returns true: what bits packs it unpacks as it was, and the other way round; each value is the field where it stands (of at most 120 each, else only the document's examples are asked). The card's tie: the table of math/bits holds what its initialiser lays. -/
import Derived.Test.YtefpgpehncllnaaDoorBitsTab
namespace Go.Proofs.YtefpgpehncllnaaDoor.bitsAgain
open Go.ChangeShapes Go.WideShapes Go.ChangeAt Go.RowKit
set_option linter.unusedVariables false

theorem pack_some (A A2 : Option Addr) (len cap len2 cap2 : Nat) (zs : List Int) (vs : List Nat) (hl : len ≤ 1000) (hl2 : len2 ≤ 1000) (hc : len ≤ cap) (hc2 : len2 ≤ cap2) (hz : zs.length = len) :
    ∃ l xs b, ∀ w, Ints w A len zs → Words w A2 len2 vs → Calls Tryd.prog 20 #[.slice A len cap, .slice A2 len2 cap2] w (Tells l xs b w) := by
  rcases pack_tells A A2 len cap len2 cap2 zs vs hl hl2 hc hc2 hz with ⟨ks, _, _, _, h⟩ | ⟨_, h⟩
  · exact ⟨_, _, _, h⟩
  · exact ⟨_, _, _, h⟩

set_option maxRecDepth 100000 in
set_option maxHeartbeats 2000000 in
theorem walk_big (A A2 A3 : Option Addr) (len cap len2 cap2 len3 cap3 : Nat) (W : World) (ht : TabW W) (h : 120 < len ∨ 120 < len2 ∨ 120 < len3) :
    Calls Tryd.prog 7 #[.slice A len cap, .slice A2 len2 cap2, .slice A3 len3 cap3] W fun e w' => e = .returned (.bool true) ∧ Below W.heap.size W w' := by
  have HT := Lib.hid ht
  clear ht
  have h' : 120 < len ∨ (¬ 120 < len ∧ 120 < len2) ∨ (¬ 120 < len ∧ ¬ 120 < len2 ∧ 120 < len3) := by omega
  clear h
  rcases h' with h | ⟨h, h2⟩ | ⟨h, h2, h3⟩
  · go_enter Tryd.func7, Tryd.ntmps7
    go_wp2_with (first | (go_at_call 10; refine (live_any _ HT.out).mono ?_; rintro e w1 ⟨rfl, hbl⟩))
    go_ret
    exact ⟨rfl, hbl⟩
  · go_enter Tryd.func7, Tryd.ntmps7
    go_wp2_with (first | (go_at_call 10; refine (live_any _ HT.out).mono ?_; rintro e w1 ⟨rfl, hbl⟩))
    go_ret
    exact ⟨rfl, hbl⟩
  · go_enter Tryd.func7, Tryd.ntmps7
    go_wp2_with (first | (go_at_call 10; refine (live_any _ HT.out).mono ?_; rintro e w1 ⟨rfl, hbl⟩))
    go_ret
    exact ⟨rfl, hbl⟩

set_option maxRecDepth 100000 in
set_option maxHeartbeats 4000000 in
theorem walk_small (A A2 A3 : Option Addr) (len cap len2 cap2 len3 cap3 : Nat) (ws : List Int) (vs ns : List Nat) (W : World) (hw : Ints W A len ws) (hv : Words W A2 len2 vs) (hn : Words W A3 len3 ns) (ht : TabW W)
    (h1 : len ≤ 120) (h2 : len2 ≤ 120) (h3 : len3 ≤ 120) (hc : len ≤ cap) (hc2 : len2 ≤ cap2) (hc3 : len3 ≤ cap3) :
    Calls Tryd.prog 7 #[.slice A len cap, .slice A2 len2 cap2, .slice A3 len3 cap3] W fun e w' => e = .returned (.bool true) ∧ Below W.heap.size W w' := by
  have HI := Lib.hid hw
  have HV := Lib.hid hv
  have HNN := Lib.hid hn
  have HT := Lib.hid ht
  have HL1 := Lib.hid hw.1
  have HL2 := Lib.hid hv.1
  have HL3 := Lib.hid hn.1
  have HA3 := Lib.hid hn.2.1
  clear hw hv hn ht
  rcases pack_tells A A2 len cap len2 cap2 ws vs (by omega) (by omega) hc hc2 HL1.out with ⟨ks, hk, hl2, hok, P⟩ | ⟨_, P⟩
  · subst hl2
    have P := Lib.hid (P W HI.out HV.out)
    have HK := Lib.hid hk
    have HO := Lib.hid hok
    have hpl := psum_le hk len2 (by rw [HL1.out]; exact Nat.le_refl _)
    have E := Lib.hid (up_pack (m := (psum ks len2 + 63) / 64) (hk.2.1.symm.trans HL1.out) HL2.out (by omega) hok)
    have E2 := Lib.hid (next_pack ((psum ks len2 + 63) / 64) ks vs len2)
    obtain ⟨m, hm⟩ : ∃ m, m = (psum ks len2 + 63) / 64 := ⟨_, rfl⟩
    have HM := Lib.hid hm
    have hm2 : psum ks len2 ≤ 64 * m := by omega
    have hm3 : m ≤ 200 := by omega
    rw [← hm] at P E E2
    clear hk hok hm
    go_enter Tryd.func7, Tryd.ntmps7
    go_wp2_with fail
    refine P.out.mono ?_
    rintro e w1 ⟨A1, c1, rfl, hc1, hw1, hb1⟩
    have B1 := Lib.hid hb1
    have HI1 := Lib.hid (HI.out.below hb1)
    have HV1 := Lib.hid (HV.out.below hb1)
    have HN1 := Lib.hid (HNN.out.below hb1)
    have HT1 := Lib.hid (HT.out.below hb1)
    have HP1 := Lib.hid hw1
    clear hb1 hw1
    have U := Lib.hid (Unpack_yes A A1 len2 cap m c1 ws ks _ w1 hc hc1 HI1.out HP1.out HK.out HT1.out HM.out E2.out)
    rw [E.out] at U
    go_wp2_with fail
    refine U.out.mono ?_
    rintro e w2 ⟨A5, c5, rfl, hf2, hb2⟩
    have B2 : Hid (Below W.heap.size W w2) := B1.out.trans (hb2.mono B1.out.size)
    have HI2 := Lib.hid (HI1.out.below hb2)
    have HV2 := Lib.hid (HV1.out.below hb2)
    have HN2 := Lib.hid (HN1.out.below hb2)
    have HT2 := Lib.hid (HT1.out.below hb2)
    have HP2 := Lib.hid (HP1.out.below hb2)
    have HQ2 := Lib.hid hf2.words
    have hc5 := hf2.1
    clear hb2 hf2
    go_wp2_with fail
    refine (Same_yes A5 A2 len2 c5 cap2 vs _ (by omega) hc5 hc2 HQ2.out HV2.out).mono ?_
    rintro e w3 ⟨rfl, hb3⟩
    have B3 : Hid (Below W.heap.size W w3) := B2.out.trans (hb3.mono B2.out.size)
    have HI3 := Lib.hid (HI2.out.below hb3)
    have HV3 := Lib.hid (HV2.out.below hb3)
    have HN3 := Lib.hid (HN2.out.below hb3)
    have HT3 := Lib.hid (HT2.out.below hb3)
    have HP3 := Lib.hid (HP2.out.below hb3)
    clear hb3
    go_wp2_with fail
    go_loopw [11, 12] (fun p i wr => ∃ j : Nat, j ≤ len2 ∧ i = .int .i64 j ∧ p = .int .i64 (psum ks j : Nat) ∧ ∃ n, wr = w3.drewN n) (fun _ i _ => len2 - (intOf i).toNat)
    case atStart => exact ⟨0, Nat.zero_le _, rfl, rfl, 0, rfl⟩
    case round =>
      obtain ⟨j, hj, rfl, rfl, nd, rfl⟩ := hrel
      have hpj := psum_le HK.out j (by rw [HL1.out]; exact hj)
      by_cases hlt : j < len2
      · obtain ⟨q1, q3⟩ := HI3.out
        obtain ⟨b, off, rfl, hbl, hcell⟩ := q3 (by omega)
        have d0 := hcell j hlt
        obtain ⟨e1, e2⟩ := HK.out.2.2 j (by omega)
        rw [e1] at d0
        obtain ⟨q4, q5, q6⟩ := HV3.out
        obtain ⟨b2, off2, rfl, hbl2, hcell2⟩ := q6 (by omega)
        have d1 := hcell2 j hlt
        have hfit := HO.out j (by rw [← HK.out.2.1]; omega)
        have hps : psum ks j + ks.getD j 0 ≤ 64 * m := by
          have := psum_mono ks (show j + 1 ≤ len2 by omega)
          simp only [psum] at this
          omega
        have G := Lib.hid (fun w h => Get_yes A1 m c1 (packAt m ks vs len2) (psum ks j) (ks.getD j 0) w (by omega) hc1 h e2 hps)
        rw [fld_pack m ks vs j len2 hlt hm2 hfit] at G
        have EP := Lib.hid (show psum ks (j + 1) = psum ks j + ks.getD j 0 from rfl)
        generalize ks.getD j 0 = k at *
        generalize vs.getD j 0 = v at *
        clear hcell hcell2 q1 q3 q4 q5 q6 hfit e1
        go_wp2_with fail
        refine (G.out _ (show Words (w3.drewN nd) A1 m _ from HP3.out)).mono ?_
        rintro e w' ⟨rfl, rfl⟩
        go_wp2
        go_roundw
        case rel => exact ⟨j + 1, by omega, by go_num, val_int (by rw [EP.out]; omega), nd, rfl⟩
        case measure => simp [intOf]; omega
      · have HIR := Lib.hid (show Ints (w3.drewN nd) A len2 ws from HI3.out)
        have HNR := Lib.hid (show Words (w3.drewN nd) A3 len3 ns from HN3.out)
        have HTR := Lib.hid (show TabW (w3.drewN nd) from HT3.out)
        have BR := Lib.hid (show Below W.heap.size W (w3.drewN nd) from below_drewN B3.out nd)
        rcases unpack_tells A A3 len2 cap len3 cap3 ws ns (by omega) (by omega) hc hc3 HL1.out HL3.out with ⟨ks, hk, hl3, hx, U⟩ | ⟨_, U⟩
        · have U := Lib.hid (U (w3.drewN nd) HTR.out HIR.out HNR.out)
          have E := Lib.hid (pack_up (len := len2) HA3.out (HL3.out.trans hl3) hx)
          have HK := Lib.hid hk
          have HLL := Lib.hid hl3
          clear hk hl3 hx
          go_wp2_with fail
          refine U.out.mono ?_
          rintro e wa ⟨Aa, ca, rfl, hca, hwa, hba⟩
          have BA : Hid (Below W.heap.size W wa) := BR.out.trans (hba.mono BR.out.size)
          have P := Lib.hid (Pack_yes A Aa len2 cap ca ws ks _ wa hc hca (HIR.out.below hba) hwa HK.out (up_ok (HK.out.2.1.symm.trans HL1.out)))
          rw [E.out, ← HLL.out] at P
          have HTA := Lib.hid (HTR.out.below hba)
          have HNA := Lib.hid (HNR.out.below hba)
          clear hba hwa
          go_wp2_with fail
          refine P.out.mono ?_
          rintro e wb ⟨Ab, cb, rfl, hfb, hbb⟩
          have BB : Hid (Below W.heap.size W wb) := BA.out.trans (hbb.mono BA.out.size)
          have HTB := Lib.hid (HTA.out.below hbb)
          have HNB := Lib.hid (HNA.out.below hbb)
          have HQB := Lib.hid hfb.words
          have hcb := hfb.1
          clear hfb hbb
          go_wp2_with fail
          refine (Same_yes Ab A3 len3 cb cap3 _ _ (by omega) hcb hc3 HQB.out HNB.out).mono ?_
          rintro e wc ⟨rfl, hbc⟩
          have BY : Hid (Below W.heap.size W wc) := BB.out.trans (hbc.mono BB.out.size)
          have HTZ := Lib.hid (HTB.out.below hbc)
          clear hbc
          go_wp2_with fail
          refine (live_any _ HTZ.out).mono ?_
          rintro e wz ⟨rfl, hbz⟩
          have BZ : Hid (Below W.heap.size W wz) := BY.out.trans (hbz.mono BY.out.size)
          clear hbz
          go_wp2
          go_ret
          exact ⟨rfl, BZ.out⟩
        · have U := Lib.hid (U (w3.drewN nd) HTR.out HIR.out HNR.out)
          go_wp2_with fail
          refine U.out.mono ?_
          rintro e wa ⟨Aa, ca, rfl, hca, hwa, hba⟩
          have BA : Hid (Below W.heap.size W wa) := BR.out.trans (hba.mono BR.out.size)
          obtain ⟨l, xs, b, P⟩ := pack_some A Aa len2 cap 0 ca ws [] (by omega) (by omega) hc hca HL1.out
          have P := Lib.hid (P wa (HIR.out.below hba) hwa)
          have HTA := Lib.hid (HTR.out.below hba)
          clear hba hwa
          go_wp2_with fail
          refine P.out.mono ?_
          rintro e wb ⟨Ab, cb, rfl, _, _, hbb⟩
          have BY : Hid (Below W.heap.size W wb) := BA.out.trans (hbb.mono BA.out.size)
          have HTZ := Lib.hid (HTA.out.below hbb)
          clear hbb
          go_wp2_with fail
          refine (live_any _ HTZ.out).mono ?_
          rintro e wz ⟨rfl, hbz⟩
          have BZ : Hid (Below W.heap.size W wz) := BY.out.trans (hbz.mono BY.out.size)
          clear hbz
          go_wp2
          go_ret
          exact ⟨rfl, BZ.out⟩
  · have P := Lib.hid (P W HI.out HV.out)
    go_enter Tryd.func7, Tryd.ntmps7
    go_wp2_with fail
    refine P.out.mono ?_
    rintro e w1 ⟨A1, c1, rfl, _, _, hb1⟩
    have BR := Lib.hid hb1
    have HIR := Lib.hid (HI.out.below hb1)
    have HNR := Lib.hid (HNN.out.below hb1)
    have HTR := Lib.hid (HT.out.below hb1)
    clear hb1
    rcases unpack_tells A A3 len cap len3 cap3 ws ns (by omega) (by omega) hc hc3 HL1.out HL3.out with ⟨ks, hk, hl3, hx, U⟩ | ⟨_, U⟩
    · have U := Lib.hid (U w1 HTR.out HIR.out HNR.out)
      have E := Lib.hid (pack_up (len := len) HA3.out (HL3.out.trans hl3) hx)
      have HK := Lib.hid hk
      have HLL := Lib.hid hl3
      clear hk hl3 hx
      go_wp2_with fail
      refine U.out.mono ?_
      rintro e wa ⟨Aa, ca, rfl, hca, hwa, hba⟩
      have BA : Hid (Below W.heap.size W wa) := BR.out.trans (hba.mono BR.out.size)
      have P := Lib.hid (Pack_yes A Aa len cap ca ws ks _ wa hc hca (HIR.out.below hba) hwa HK.out (up_ok (HK.out.2.1.symm.trans HL1.out)))
      rw [E.out, ← HLL.out] at P
      have HTA := Lib.hid (HTR.out.below hba)
      have HNA := Lib.hid (HNR.out.below hba)
      clear hba hwa
      go_wp2_with fail
      refine P.out.mono ?_
      rintro e wb ⟨Ab, cb, rfl, hfb, hbb⟩
      have BB : Hid (Below W.heap.size W wb) := BA.out.trans (hbb.mono BA.out.size)
      have HTB := Lib.hid (HTA.out.below hbb)
      have HNB := Lib.hid (HNA.out.below hbb)
      have HQB := Lib.hid hfb.words
      have hcb := hfb.1
      clear hfb hbb
      go_wp2_with fail
      refine (Same_yes Ab A3 len3 cb cap3 _ _ (by omega) hcb hc3 HQB.out HNB.out).mono ?_
      rintro e wc ⟨rfl, hbc⟩
      have BY : Hid (Below W.heap.size W wc) := BB.out.trans (hbc.mono BB.out.size)
      have HTZ := Lib.hid (HTB.out.below hbc)
      clear hbc
      go_wp2_with fail
      refine (live_any _ HTZ.out).mono ?_
      rintro e wz ⟨rfl, hbz⟩
      have BZ : Hid (Below W.heap.size W wz) := BY.out.trans (hbz.mono BY.out.size)
      clear hbz
      go_wp2
      go_ret
      exact ⟨rfl, BZ.out⟩
    · have U := Lib.hid (U w1 HTR.out HIR.out HNR.out)
      go_wp2_with fail
      refine U.out.mono ?_
      rintro e wa ⟨Aa, ca, rfl, hca, hwa, hba⟩
      have BA : Hid (Below W.heap.size W wa) := BR.out.trans (hba.mono BR.out.size)
      obtain ⟨l, xs, b, P⟩ := pack_some A Aa len cap 0 ca ws [] (by omega) (by omega) hc hca HL1.out
      have P := Lib.hid (P wa (HIR.out.below hba) hwa)
      have HTA := Lib.hid (HTR.out.below hba)
      clear hba hwa
      go_wp2_with fail
      refine P.out.mono ?_
      rintro e wb ⟨Ab, cb, rfl, _, _, hbb⟩
      have BY : Hid (Below W.heap.size W wb) := BA.out.trans (hbb.mono BA.out.size)
      have HTZ := Lib.hid (HTA.out.below hbb)
      clear hbb
      go_wp2_with fail
      refine (live_any _ HTZ.out).mono ?_
      rintro e wz ⟨rfl, hbz⟩
      have BZ : Hid (Below W.heap.size W wz) := BY.out.trans (hbz.mono BY.out.size)
      clear hbz
      go_wp2
      go_ret
      exact ⟨rfl, BZ.out⟩

theorem walk (A : Option Addr) (len cap : Nat) (z1 : List Int) (A2 : Option Addr) (len2 cap2 : Nat) (z2 : List Int) (A3 : Option Addr) (len3 cap3 : Nat) (z3 : List Int) {W : World} (h1 : IsInts .i64 W A len cap z1) (h2 : IsInts .u64 W A2 len2 cap2 z2) (h3 : IsInts .u64 W A3 len3 cap3 z3) (ht : TabW W) :
    Calls Tryd.prog 7 #[.slice A len cap, .slice A2 len2 cap2, .slice A3 len3 cap3] W fun e w' => e = .returned (.bool true) ∧ Below W.heap.size W w' := by
  obtain ⟨i1, c1, _⟩ := ints_of h1
  obtain ⟨vs, i2, c2, _, _⟩ := words_of h2
  obtain ⟨ns, i3, c3, _, _⟩ := words_of h3
  by_cases h : 120 < len ∨ 120 < len2 ∨ 120 < len3
  · exact walk_big A A2 A3 len cap len2 cap2 len3 cap3 W ht h
  · exact walk_small A A2 A3 len cap len2 cap2 len3 cap3 _ vs ns W i1 i2 i3 ht (by omega) (by omega) (by omega) c1 c2 c3

theorem own : ownKnob Tryd.prog.godebug = none := by kernel_rfl
theorem laidOut : laidOutB Tryd.prog = true := by kernel_rfl
theorem contract (H : Type) (enc : TypeId × Value → H) (W : World) (base : Nat) (args : Array Value) (ds gs : List (DataW H)) (before : List MemPlace)
    (hval : ∀ (j : Nat) t v, Tryd.f7.params[j]? = some t → args[j]? = some v → Value.okWide Tryd.prog W .any base t v)
    (hW : DataW.Whole enc Tryd.prog Tryd.f7.params.toList Rows.bitsAgainSpec.vars false W args.toList ds gs before) (hL : laidMetH Tryd.prog Rows.bitsAgainRow.laid W) :
    Calls Tryd.prog 7 args W fun e W' => ∃ v, e = .returned v ∧ Rows.bitsAgainSpec.post enc Tryd.prog Tryd.f7 false true false false W args v W' := by
  have hW' := hW
  obtain ⟨p, q, hA0, hV, rfl, hfz, hnd⟩ := hW
  have hA : DataW.TrodAll enc Tryd.prog W 0 (fun _ => true) true Tryd.f7.params.toList args.toList ds p := hA0
  rw [Tryd.params7] at hA hval
  obtain ⟨v0, vs0, d0, ds0, p0, q0, hargs, rfl, rfl, h0, r0⟩ := trodAll_cons hA
  obtain ⟨v1, vs1, d1, ds1, p1, q1, rfl, rfl, rfl, h1, r1⟩ := trodAll_cons r0
  obtain ⟨v2, vs2, d2, ds2, p2, q2, rfl, rfl, rfl, h2, r2⟩ := trodAll_cons r1
  obtain ⟨rfl, rfl, rfl⟩ := trodAll_nil r2
  obtain rfl : args = #[v0, v1, v2] := by cases args; simp_all
  obtain ⟨rfl, rfl⟩ := trodVars_none hV
  have k0 := h0
  have lt0 : ∀ x ∈ p0, x.block < W.heap.size := by obtain ⟨m, hm⟩ := k0; exact DataW.trod_lt m _ _ _ hm
  obtain ⟨a0, len0, cap0, z0, rfl, w0⟩ := open_slice_int Tryd.underlying36 Tryd.underlying3 (by kernel_rfl) (hval 0 36 v0 rfl rfl) h0
  have k1 := h1
  have lt1 : ∀ x ∈ p1, x.block < W.heap.size := by obtain ⟨m, hm⟩ := k1; exact DataW.trod_lt m _ _ _ hm
  obtain ⟨a1, len1, cap1, z1, rfl, w1⟩ := open_slice_int Tryd.underlying22 Tryd.underlying24 (by kernel_rfl) (hval 1 22 v1 rfl rfl) h1
  have k2 := h2
  have lt2 : ∀ x ∈ p2, x.block < W.heap.size := by obtain ⟨m, hm⟩ := k2; exact DataW.trod_lt m _ _ _ hm
  obtain ⟨a2, len2, cap2, z2, rfl, w2⟩ := open_slice_int Tryd.underlying22 Tryd.underlying24 (by kernel_rfl) (hval 2 22 v2 rfl rfl) h2
  clear hA0
  refine (walk a0 len0 cap0 z0 a1 len1 cap1 z1 a2 len2 cap2 z2 w0 w1 w2 (tabW_of hL)).mono fun e W' ⟨he, bel⟩ => ?_
  subst he
  exact ⟨_, rfl, _, _, _, [], _, [], hW', trodAll_mk1 (shut_bool Tryd.underlying4 _), (trodAll_cons_mk (Below.trod laidOut (by kernel_rfl) (of_decide_eq_true (by kernel_rfl)) k0 bel lt0) (trodAll_cons_mk (Below.trod laidOut (by kernel_rfl) (of_decide_eq_true (by kernel_rfl)) k1 bel lt1) (trodAll_cons_mk (Below.trod laidOut (by kernel_rfl) (of_decide_eq_true (by kernel_rfl)) k2 bel lt2) trodAll_mk0))), rfl, bel.frame _, fun h => by cases h⟩

theorem laid_met (os : Os) : laidMet Tryd.prog Rows.bitsAgainRow.laid ((laidWorld os).forCall (fun _ _ => 0) ⟨#[], #[.slice none 0 0, .slice none 0 0, .slice none 0 0], []⟩).memory :=
  laidMet_of_run' 8 (by kernel_rfl) (by kernel_rfl)
theorem reads (os : Os) {H : Type} (enc : TypeId × Value → H) : ∃ places, DataW.whole enc Tryd.prog ((laidWorld os).forCall (fun _ _ => 0) ⟨#[], #[.slice none 0 0, .slice none 0 0, .slice none 0 0], []⟩).memory Tryd.f7.params.toList Rows.bitsAgainSpec.vars false (#[.slice none 0 0, .slice none 0 0, .slice none 0 0] : Array Value).toList 8 = some ([.nil, .nil, .nil], [], places) :=
  ⟨[], by kernel_rfl⟩

set_option maxRecDepth 100000 in
theorem lifted (os : Os) (started : os.Started) (H : Type) (enc : TypeId × Value → H) (F : Stop.Interp) :
    ReturnsInHanded {} Tryd.checked os 7 .any ((OpenSpec.ofChange Rows.bitsAgainSpec).preRow enc Tryd.prog Tryd.f7 Rows.bitsAgainRow.domain false Rows.bitsAgainRow.laid) (((OpenSpec.ofChange Rows.bitsAgainSpec).at F).post enc Tryd.prog Tryd.f7 false true false false) := by
  obtain ⟨places, hx⟩ := reads os enc
  refine returnsInHanded_of_row (C := Tryd.checked) (s := OpenSpec.ofChange Rows.bitsAgainSpec) own started (by kernel_rfl) Tryd.func7
    (witness_row_at (enc := enc) (C := Tryd.checked) false (laidWorld os) #[.slice none 0 0, .slice none 0 0, .slice none 0 0] rfl (by kernel_rfl) (by kernel_rfl) (by kernel_rfl)
      (OpenSpec.preRow_of_cond 8 hx (by kernel_rfl) (fun k hk => by cases hk) (by kernel_rfl) (laid_met os))) ?_
  intro W base args ds gs before hval hW _ _ _ hL _ _
  exact contract H enc W base args ds gs before hval hW hL

theorem said : Rows.BitsAgainSaid :=
  OpenClaim.holds_of_cond 7 Tryd.f7 rfl rfl rfl rfl rfl rfl rfl ⟨rfl, rfl, rfl, rfl, rfl⟩ rfl rfl rfl rfl rfl (by kernel_rfl) Tryd.func7 (by kernel_rfl)
    (of_decide_eq_true (by kernel_rfl)) (by unfold Func.isWrapper; first | (rw [if_pos (by decide +kernel)]; kernel_rfl) | (rw [if_neg (by decide +kernel)]; exact ⟨rfl, rfl⟩))
    (fun os started H enc _ F => by rw [OpenClaim.pre_eq_preRow]; exact lifted os started H enc F)
theorem plain (f : FuncId) (fn : Func) (hf : Tryd.pinned.checked.prog.funcNamed Rows.bitsAgainRow.func = some f) (hfn : Tryd.pinned.checked.prog.funcs[f]? = some fn) :
    false = Tryd.pinned.checked.prog.looks [] ∧ ∀ (j : Nat) t, fn.params[j]? = some t → Tryd.pinned.checked.prog.wantsStandIn t = false := by
  obtain rfl : f = 7 := Option.some.inj ((show Tryd.prog.funcNamed Rows.bitsAgainRow.func = some 7 by kernel_rfl).symm.trans hf) |>.symm
  obtain rfl : fn = Tryd.f7 := (Option.some.inj (Tryd.func7.symm.trans hfn)).symm
  refine ⟨by kernel_rfl, fun j t ht => ?_⟩
  rw [Tryd.params7] at ht
  have hm := Array.mem_of_getElem? ht
  simp only [List.mem_toArray, List.mem_cons, List.not_mem_nil, or_false] at hm
  rcases hm with rfl | rfl | rfl
  · exact (show Tryd.prog.wantsStandIn 36 = false by kernel_rfl)
  · exact (show Tryd.prog.wantsStandIn 22 = false by kernel_rfl)
  · exact (show Tryd.prog.wantsStandIn 22 = false by kernel_rfl)
theorem card : Rows.BitsAgainCardSaid :=
  Claim7.holds_tied_plain_at .later [] _ _ _ _ said (fun _ h => by cases h) (by kernel_rfl) (fun _ h => by cases h) bitsAgain_row_tie rfl ⟨rfl, rfl⟩ (by kernel_rfl) rfl plain (by kernel_rfl)
end Go.Proofs.YtefpgpehncllnaaDoor.bitsAgain
namespace Go.Proofs.YtefpgpehncllnaaDoor
theorem bitsAgain_proved : Rows.BitsAgainCardSaid := bitsAgain.card
end Go.Proofs.YtefpgpehncllnaaDoor

