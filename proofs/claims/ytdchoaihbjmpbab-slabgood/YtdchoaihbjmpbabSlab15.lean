/- For all numbers and lists of calls the law SlabGood returns true: no handle that was given is ever good again, and cells do not touch one another (of at most 60 calls, 40 words, else only the document's examples are asked). -/
import Derived.Test.YtdchoaihbjmpbabSlab14
namespace Go.Proofs.Ytdchoaihbjmpbab.slabGood
open Go.ChangeShapes Go.WideShapes Go.ChangeAt Go.RowKit
set_option linter.unusedVariables false

theorem live_nonneg (s : Sl) : ∀ z ∈ s.live, 0 ≤ z := by
  intro z hz
  unfold Sl.live at hz
  obtain ⟨p, _, rfl⟩ := List.mem_map.1 hz
  unfold hdl
  omega

set_option maxRecDepth 100000 in
set_option maxHeartbeats 8000000 in
theorem main (n k : Nat) (A : Option Addr) (len cap : Nat) {W : World} (h1 : 1 ≤ n) (h2 : n ≤ 64) (h3 : k ≤ 32) (hops : IsOps W A len cap) :
    Calls Try.prog 4 #[.int .i64 n, .int .i64 k, .slice A len cap] W fun e w' => e = .returned (.bool true) ∧ Below W.heap.size W w' := by
  have hlm : len ≤ 9223372036854775807 := by have := hops.2.1; have := hops.1; unfold maxLen at *; omega
  have hlc := hops.1
  have HOPS := Lib.hid hops
  clear hops
  go_enter Try.func4, Try.ntmps4
  go_wp2_with fail
  refine (New_in n k W h1 h2 h3).mono ?_
  rintro e w1 ⟨FT, bP, bC, bF, bs, rfl, hbl, hS, hB, hlo⟩
  have HI0 := Lib.hid (show GInv FT W w1 bP bC bF k n 0 (newS n k bs) (.slice none 0 0) (.slice none 0 0) [] [] from ⟨hS, Sl.Ok.new n k bs hbl, by simp [newS, hbl], Giv.nil _ _ _, Giv.nil _ _ _, Nat.le_refl _, Nat.le_refl _, (fun h hh => by cases hh), hB⟩)
  have HLO := Lib.hid hlo
  have HOP1 := Lib.hid (show IsOps w1 A len cap from by
    obtain ⟨q1, q2, q3⟩ := HOPS.out
    refine ⟨q1, q2, fun h0 => ?_⟩
    obtain ⟨b, off, e, hb, hall⟩ := q3 h0
    refine ⟨b, off, e, Nat.lt_of_lt_of_le hb hB.size, fun i hi => ?_⟩
    obtain ⟨o, ho⟩ := hall i hi
    refine ⟨o, ⟨(hB.cell (p := ⟨b, _, none⟩) hb).trans ho.c0, (hB.cell (p := ⟨b, _, none⟩) hb).trans ho.c1, (hB.cell (p := ⟨b, _, none⟩) hb).trans ho.c2, (hB.cell (p := ⟨b, _, none⟩) hb).trans ho.c3, ho.w0, ho.w1, ?_⟩⟩
    rcases ho.ws with hz | ⟨x, e1, e2, e3, e4, e5, e6⟩
    · exact .inl hz
    · refine .inr ⟨x, e1, e2, e3, e4, fun i hi => ?_, e6⟩
      have h := e5 i hi
      have hlt := block_lt_of_cell h
      exact (hB.cell hlt).trans h)
  clear hS hB hlo hbl
  go_wp2_with fail
  refine (few_any A len cap _ HOP1.out).mono ?_
  rintro e w2 ⟨r, rfl, rfl, hfew⟩
  clear HOP1
  cases r with
  | false =>
    clear hfew
    go_wp2_with fail
    refine (live_any _).mono ?_
    rintro e w6 ⟨rfl, hb⟩
    have HB8 := Lib.hid (HI0.out.lo.trans (hb.mono HI0.out.lo.size))
    clear hb
    go_wp2
    go_ret
    exact ⟨rfl, HB8.out⟩
  | true =>
    have hl60 := (hfew rfl).1
    clear hfew
    go_wp2_with fail
    go_loopw [9, 10, 11] (fun v1 v2 i wr => ∃ (j : Nat) (s : Sl) (all gone : List Int), j ≤ len ∧ i = .int .i64 (j : Int) ∧ GInv FT W wr bP bC bF k n j s v1 v2 all gone) (fun _ _ i _ => len - (intOf i).toNat)
    case atStart => exact ⟨0, _, [], [], Nat.zero_le _, rfl, HI0.out⟩
    case round =>
      obtain ⟨j, s, all, gone, hj, rfl, hI⟩ := hrel
      have HI := Lib.hid hI
      clear hI HI0
      by_cases hlt : j < len
      · obtain ⟨b, off, rfl, hb, hall⟩ := HOPS.out.2.2 (by omega)
        obtain ⟨o, ho⟩ := hall j hlt
        clear hall
        have c0 := (HI.out.lo.cell (p := ⟨b, off + j * 4, none⟩) hb).trans ho.c0
        have c1 := (HI.out.lo.cell (p := ⟨b, off + j * 4 + 1, none⟩) hb).trans ho.c1
        have c2 := (HI.out.lo.cell (p := ⟨b, off + j * 4 + 2, none⟩) hb).trans ho.c2
        have c3 := (HI.out.lo.cell (p := ⟨b, off + j * 4 + 3, none⟩) hb).trans ho.c3
        obtain ⟨hwl, ns, hwords⟩ := words_in ho.ws
        have HWD := Lib.hid hwords
        obtain ⟨L, lcap, e1, hat⟩ := HI.out.g1.at_
        have HOF := Lib.hid (of_any o.do_ o.h o.own o.A L o.len o.cap lcap all wr hat (by have := HI.out.l1; omega))
        have HO := Lib.hid ho
        clear ho hat hwords
        subst e1
        obtain ⟨L2, lcap2, e2, hat2⟩ := HI.out.g2.at_
        subst e2
        clear hat2
        go_wp2_with fail
        refine HOF.out.mono ?_
        rintro e w3 ⟨hz, rfl, hbo⟩
        have HI3 := Lib.hid (HI.out.below hbo)
        have a0 := (HI3.out.lo.cell (p := ⟨b, off + j * 4, none⟩) hb).trans HO.out.c0
        have a3 := (HI3.out.lo.cell (p := ⟨b, off + j * 4 + 3, none⟩) hb).trans HO.out.c3
        clear hbo HOF HI c0 c1 c2 c3
        by_cases d0 : o.do_ = 0
        · rw [d0] at a0
          clear d0 HO
          rcases free_cases s with hf | ⟨fs, i, hf⟩
          · have HTK := Lib.hid (Take_full bP bC bF k s w3 HI3.out.sl.is hf)
            have HFR := Lib.hid (show Calls Try.prog 23 #[.pointer (some ⟨bP, 0, none⟩)] w3 fun e w' => e = .returned (.int .i64 0) ∧ w3 = w' by have := Free_any bP bC bF k s w3 HI3.out.sl.is; rw [hf] at this; exact this)
            clear hf
            go_wp2_with fail
            refine HTK.out.mono ?_
            rintro e w4 ⟨rfl, rfl⟩
            go_wp2_with fail
            refine HFR.out.mono ?_
            rintro e w4 ⟨rfl, rfl⟩
            go_wp2
            go_roundw
            case rel => exact ⟨j + 1, s, all, gone, by omega, by go_num, HI3.out.next⟩
            case measure => simp [intOf]; omega
          · obtain ⟨c, hc⟩ : ∃ c, s.cells[i]? = some c := ⟨_, List.getElem?_eq_getElem (HI3.out.ok.lt i (by rw [hf]; simp))⟩
            obtain ⟨zh, hzh⟩ : ∃ zh, (c.gen : Int) * 64 + i = zh := ⟨_, rfl⟩
            have HTK := Lib.hid (Take_in FT bP bC bF k i s c fs zh w3 HI3.out.sl hc hf hzh)
            have HOK := Lib.hid (HI3.out.ok.take (c' := { c with taken := true, ws := List.replicate k 0 }) hc hf rfl rfl)
            have HGN := Lib.hid (fun x (hx : x ∈ gone) => (HI3.out.gn x hx).put (c' := { c with taken := true, ws := List.replicate k 0 }) (fr := fs) hc (Nat.le_refl _))
            have HLN := Lib.hid (show (s.put i { c with taken := true, ws := List.replicate k 0 } fs).cells.length = n by rw [put_len]; exact HI3.out.len)
            clear hc hf hzh
            generalize s.put i { c with taken := true, ws := List.replicate k 0 } fs = st at *
            go_wp2_with fail
            refine HTK.out.mono ?_
            rintro e w4 ⟨rfl, hS, hK⟩
            have HI4 := Lib.hid (HI3.out.call HLO.out hS hK (HOK.out.mono (Nat.le_succ _)) HLN.out HGN.out)
            have HL1 := Lib.hid HI3.out.l1
            clear hS hK HTK HOK HGN HLN HI3
            go_wp2_with (at_builtin; refine wpList_append_giv w4 rfl _ _ rfl _ all zh rfl rfl HI4.out.g1 HI4.out.lt1 HI4.out.lo.size ?c1 ?_)
            case c1 => have := HL1.out; omega
            intro g cap' w5 hG5 hK5
            have HT := Lib.hid (HI4.out.more1 HL1.out hG5 (hK5.mono (fun b _ h => ⟨fun hor => hor.elim h.1.1 h.1.2, h.2⟩)))
            clear hG5 hK5 HI4
            as_aux_lemma =>
              obtain ⟨GT, hGT⟩ : ∃ GT, GT = gone := ⟨_, rfl⟩
              have HGL := Lib.hid (show GT.length = gone.length by rw [hGT])
              rw [← hGT] at HT
              obtain ⟨Ax, capx, ex, hatx⟩ := HT.out.g2.at_
              clear hGT
              rw [HGL.out] at ex
              injection ex with ex1 ex2 ex3
              subst ex1
              subst ex3
              have hcx := hatx.1
              rw [HGL.out] at hcx
              have hgb : gone.length ≤ 100 := by have := HT.out.l2; rw [HGL.out] at this; omega
              have HATX := Lib.hid hatx
              clear hatx ex2
              go_wp2_with fail
              go_loop [24] (fun i => ∃ q : Nat, q ≤ gone.length ∧ i = .int .i64 (q : Int)) (fun i => gone.length - (intOf i).toNat)
              case atStart => exact ⟨0, Nat.zero_le _, rfl⟩
              case round =>
                obtain ⟨q, hq, rfl⟩ := hrel
                by_cases hq1 : q < gone.length
                · obtain ⟨gx, exx, hcellx⟩ := HATX.out.2 (by rw [HGL.out]; omega)
                  first | subst exx | (injection exx with exx; injection exx with exx; subst exx)
                  obtain ⟨z, hz⟩ : ∃ z, GT[q]? = some z := ⟨_, List.getElem?_eq_getElem (by rw [HGL.out]; exact hq1)⟩
                  have dx := hcellx q z hz
                  have HRD := Lib.hid (Read_no bP bC bF k z st w5 HT.out.sl.is (HT.out.gn z (List.mem_of_getElem? hz)).none)
                  clear hcellx hz
                  go_wp2_with fail
                  refine HRD.out.mono ?_
                  rintro e wq ⟨rfl, rfl⟩
                  go_wp2
                  go_round
                  case rel => exact ⟨q + 1, by omega, by go_num⟩
                  case measure => simp [intOf]; omega
                · go_wp2_with fail
                  refine (Live_any bP bC bF k st _ HT.out.sl.is).mono ?_
                  rintro e w7 hlv
                  obtain ⟨A7, cap7, rfl, hat7, hb7⟩ := live_at hlv
                  have HT7 := Lib.hid (HT.out.below hb7)
                  have HAT7 := Lib.hid hat7
                  have hc7 := hat7.1
                  have hcnt := live_count HT.out.ok
                  rw [HT.out.len] at hcnt
                  have HCNT := Lib.hid hcnt
                  have hll : st.live.length ≤ 64 := by omega
                  have hfl : st.free.length ≤ 64 := by omega
                  have HAP := Lib.hid (live_apart (s := st) (by rw [HT.out.len]; exact h2))
                  have HNN := Lib.hid (live_nonneg st)
                  have HFR := Lib.hid (fun wz (hz : SlabIn FT wz bP bC bF k st) => Free_any bP bC bF k st wz hz.is)
                  clear hlv hat7 hb7 hcnt HATX HT
                  generalize st.live = lv at *
                  generalize st.free.length = fl at *
                  go_wp2_with fail
                  go_loopw [28] (fun i wx => ∃ q : Nat, q ≤ lv.length ∧ i = .int .i64 (q : Int) ∧ ∃ m, wx = w7.drewN m) (fun i _ => lv.length - (intOf i).toNat)
                  case atStart => exact ⟨0, Nat.zero_le _, rfl, 0, rfl⟩
                  case round =>
                    obtain ⟨q8, hq8, rfl, m8, rfl⟩ := hrel
                    by_cases hlt8 : q8 < lv.length
                    · go_wp2_with fail
                      go_loopw [29] (fun i wx => ∃ p : Nat, p ≤ q8 ∧ i = .int .i64 (p : Int) ∧ ∃ m, wx = w7.drewN m) (fun i _ => q8 - (intOf i).toNat)
                      case atStart => exact ⟨0, Nat.zero_le _, rfl, m8, rfl⟩
                      case round =>
                        obtain ⟨p9, hp9, rfl, m9, rfl⟩ := hrel
                        by_cases hlt9 : p9 < q8
                        · obtain ⟨g7, rfl, hcell7⟩ := HAT7.out.2 (by omega)
                          have d8 := hcell7 q8 _ (List.getElem?_eq_getElem hlt8)
                          have d9 := hcell7 p9 _ (List.getElem?_eq_getElem (show p9 < lv.length by omega))
                          have hap := List.pairwise_iff_getElem.1 HAP.out p9 q8 (by omega) hlt8 hlt9
                          have n8 := HNN.out _ (List.getElem_mem hlt8)
                          have n9 := HNN.out _ (List.getElem_mem (show p9 < lv.length by omega))
                          clear hcell7
                          generalize lv[q8] = z8 at *
                          generalize lv[p9] = z9 at *
                          have t8 : (z8 % 64 == z9 % 64) = false := by simp; omega
                          have t9 : (z8.tmod 64 == z9.tmod 64) = false := by rw [Int.tmod_eq_emod_of_nonneg n8, Int.tmod_eq_emod_of_nonneg n9]; exact t8
                          clear hap
                          go_wp2_with fail
                          go_quiet (fail)
                          go_wp2
                          go_roundw
                          case rel => exact ⟨p9 + 1, by omega, by go_num, m9 + nq, rfl⟩
                          case measure => simp [intOf]; omega
                        · go_wp2
                          go_roundw
                          case rel => exact ⟨q8 + 1, by omega, by go_num, m9, rfl⟩
                          case measure => simp [intOf]; omega
                    · have HT8 := Lib.hid (HT7.out.below (below_drewN (Below.refl _ _) m8))
                      have t8 : ((lv.length : Int) + (fl : Int) != (n : Int)) = false := by have := HCNT.out; simp; omega
                      go_wp2_with fail
                      refine (HFR.out _ HT8.out.sl).mono ?_
                      rintro e w8 ⟨rfl, rfl⟩
                      go_wp2
                      go_roundw
                      case rel => exact ⟨j + 1, _, _, _, by omega, by go_num, by first | exact HT8.out | (have := HT8.out; rw [HGL.out] at this; exact this)⟩
                      case measure => simp [intOf]; omega
        have q0 : (o.do_ == 0) = false := by simp [d0]
        by_cases d1 : o.do_ = 1
        · rw [d1] at a0
          clear d0 d1 q0 HO
          cases hfd : s.find hz with
          | none =>
            have HGV := Lib.hid (Give_no bP bC bF k hz s w3 HI3.out.sl.is hfd)
            have HT := Lib.hid HI3.out.next
            clear hfd HI3
            go_wp2_with fail
            refine HGV.out.mono ?_
            rintro e w4 ⟨rfl, rfl⟩
            as_aux_lemma =>
              obtain ⟨GT, hGT⟩ : ∃ GT, GT = gone := ⟨_, rfl⟩
              have HGL := Lib.hid (show GT.length = gone.length by rw [hGT])
              rw [← hGT] at HT
              obtain ⟨Ax, capx, ex, hatx⟩ := HT.out.g2.at_
              clear hGT
              rw [HGL.out] at ex
              injection ex with ex1 ex2 ex3
              subst ex1
              subst ex3
              have hcx := hatx.1
              rw [HGL.out] at hcx
              have hgb : gone.length ≤ 100 := by have := HT.out.l2; rw [HGL.out] at this; omega
              have HATX := Lib.hid hatx
              clear hatx ex2
              go_wp2_with fail
              go_loop [24] (fun i => ∃ q : Nat, q ≤ gone.length ∧ i = .int .i64 (q : Int)) (fun i => gone.length - (intOf i).toNat)
              case atStart => exact ⟨0, Nat.zero_le _, rfl⟩
              case round =>
                obtain ⟨q, hq, rfl⟩ := hrel
                by_cases hq1 : q < gone.length
                · obtain ⟨gx, exx, hcellx⟩ := HATX.out.2 (by rw [HGL.out]; omega)
                  first | subst exx | (injection exx with exx; injection exx with exx; subst exx)
                  obtain ⟨z, hz⟩ : ∃ z, GT[q]? = some z := ⟨_, List.getElem?_eq_getElem (by rw [HGL.out]; exact hq1)⟩
                  have dx := hcellx q z hz
                  have HRD := Lib.hid (Read_no bP bC bF k z s w3 HT.out.sl.is (HT.out.gn z (List.mem_of_getElem? hz)).none)
                  clear hcellx hz
                  go_wp2_with fail
                  refine HRD.out.mono ?_
                  rintro e wq ⟨rfl, rfl⟩
                  go_wp2
                  go_round
                  case rel => exact ⟨q + 1, by omega, by go_num⟩
                  case measure => simp [intOf]; omega
                · go_wp2_with fail
                  refine (Live_any bP bC bF k s _ HT.out.sl.is).mono ?_
                  rintro e w7 hlv
                  obtain ⟨A7, cap7, rfl, hat7, hb7⟩ := live_at hlv
                  have HT7 := Lib.hid (HT.out.below hb7)
                  have HAT7 := Lib.hid hat7
                  have hc7 := hat7.1
                  have hcnt := live_count HT.out.ok
                  rw [HT.out.len] at hcnt
                  have HCNT := Lib.hid hcnt
                  have hll : s.live.length ≤ 64 := by omega
                  have hfl : s.free.length ≤ 64 := by omega
                  have HAP := Lib.hid (live_apart (s := s) (by rw [HT.out.len]; exact h2))
                  have HNN := Lib.hid (live_nonneg s)
                  have HFR := Lib.hid (fun wz (hz : SlabIn FT wz bP bC bF k s) => Free_any bP bC bF k s wz hz.is)
                  clear hlv hat7 hb7 hcnt HATX HT
                  generalize s.live = lv at *
                  generalize s.free.length = fl at *
                  go_wp2_with fail
                  go_loopw [28] (fun i wx => ∃ q : Nat, q ≤ lv.length ∧ i = .int .i64 (q : Int) ∧ ∃ m, wx = w7.drewN m) (fun i _ => lv.length - (intOf i).toNat)
                  case atStart => exact ⟨0, Nat.zero_le _, rfl, 0, rfl⟩
                  case round =>
                    obtain ⟨q8, hq8, rfl, m8, rfl⟩ := hrel
                    by_cases hlt8 : q8 < lv.length
                    · go_wp2_with fail
                      go_loopw [29] (fun i wx => ∃ p : Nat, p ≤ q8 ∧ i = .int .i64 (p : Int) ∧ ∃ m, wx = w7.drewN m) (fun i _ => q8 - (intOf i).toNat)
                      case atStart => exact ⟨0, Nat.zero_le _, rfl, m8, rfl⟩
                      case round =>
                        obtain ⟨p9, hp9, rfl, m9, rfl⟩ := hrel
                        by_cases hlt9 : p9 < q8
                        · obtain ⟨g7, rfl, hcell7⟩ := HAT7.out.2 (by omega)
                          have d8 := hcell7 q8 _ (List.getElem?_eq_getElem hlt8)
                          have d9 := hcell7 p9 _ (List.getElem?_eq_getElem (show p9 < lv.length by omega))
                          have hap := List.pairwise_iff_getElem.1 HAP.out p9 q8 (by omega) hlt8 hlt9
                          have n8 := HNN.out _ (List.getElem_mem hlt8)
                          have n9 := HNN.out _ (List.getElem_mem (show p9 < lv.length by omega))
                          clear hcell7
                          generalize lv[q8] = z8 at *
                          generalize lv[p9] = z9 at *
                          have t8 : (z8 % 64 == z9 % 64) = false := by simp; omega
                          have t9 : (z8.tmod 64 == z9.tmod 64) = false := by rw [Int.tmod_eq_emod_of_nonneg n8, Int.tmod_eq_emod_of_nonneg n9]; exact t8
                          clear hap
                          go_wp2_with fail
                          go_quiet (fail)
                          go_wp2
                          go_roundw
                          case rel => exact ⟨p9 + 1, by omega, by go_num, m9 + nq, rfl⟩
                          case measure => simp [intOf]; omega
                        · go_wp2
                          go_roundw
                          case rel => exact ⟨q8 + 1, by omega, by go_num, m9, rfl⟩
                          case measure => simp [intOf]; omega
                    · have HT8 := Lib.hid (HT7.out.below (below_drewN (Below.refl _ _) m8))
                      have t8 : ((lv.length : Int) + (fl : Int) != (n : Int)) = false := by have := HCNT.out; simp; omega
                      go_wp2_with fail
                      refine (HFR.out _ HT8.out.sl).mono ?_
                      rintro e w8 ⟨rfl, rfl⟩
                      go_wp2
                      go_roundw
                      case rel => exact ⟨j + 1, _, _, _, by omega, by go_num, by first | exact HT8.out | (have := HT8.out; rw [HGL.out] at this; exact this)⟩
                      case measure => simp [intOf]; omega
          | some i =>
            obtain ⟨c, hc, htk⟩ : ∃ c, s.cells[i]? = some c ∧ c.taken = true := by obtain ⟨m, c, _, _, _, hc, ht, _⟩ := Sl.find_some hfd; exact ⟨c, hc, ht⟩
            have HGV := Lib.hid (Give_in FT bP bC bF k i hz s c w3 HI3.out.sl hfd hc (HI3.out.ok.room hc htk) (by have := HI3.out.ok.gn c (List.mem_of_getElem? hc); omega))
            have HOK := Lib.hid (HI3.out.ok.give hc htk)
            have HGN := Lib.hid (fun x (hx : x ∈ gone) => (HI3.out.gn x hx).put (c' := { c with taken := false, gen := c.gen + 1 }) (fr := s.free ++ [i]) hc (Nat.le_succ _))
            have HGZ := Lib.hid (Gone.given (fr := s.free ++ [i]) hfd hc)
            have HLN := Lib.hid (show (s.put i { c with taken := false, gen := c.gen + 1 } (s.free ++ [i])).cells.length = n by rw [put_len]; exact HI3.out.len)
            clear hc htk hfd
            generalize s.put i { c with taken := false, gen := c.gen + 1 } (s.free ++ [i]) = st at *
            go_wp2_with fail
            refine HGV.out.mono ?_
            rintro e w4 ⟨rfl, hS, hK⟩
            have HI4 := Lib.hid (HI3.out.call HLO.out hS hK HOK.out HLN.out HGN.out)
            have HL2 := Lib.hid HI3.out.l2
            clear hS hK HGV HOK HGN HLN HI3
            go_wp2_with (at_builtin; refine wpList_append_giv w4 rfl _ _ rfl _ gone hz rfl rfl HI4.out.g2' HI4.out.lt2 HI4.out.lo.size ?c1 ?_)
            case c1 => have := HL2.out; omega
            intro g cap' w5 hG5 hK5
            have HT := Lib.hid (HI4.out.more2 HL2.out HGZ.out hG5 (hK5.mono (fun b _ h => ⟨fun hor => hor.elim h.1.1 h.1.2, h.2⟩)))
            clear hG5 hK5 HI4 HGZ
            as_aux_lemma =>
              obtain ⟨GT, hGT⟩ : ∃ GT, GT = (gone ++ [hz]) := ⟨_, rfl⟩
              have HGL := Lib.hid (show GT.length = gone.length + 1 by rw [hGT]; simp)
              rw [← hGT] at HT
              obtain ⟨Ax, capx, ex, hatx⟩ := HT.out.g2.at_
              clear hGT
              rw [HGL.out] at ex
              injection ex with ex1 ex2 ex3
              subst ex1
              subst ex3
              have hcx := hatx.1
              rw [HGL.out] at hcx
              have hgb : gone.length + 1 ≤ 100 := by have := HT.out.l2; rw [HGL.out] at this; omega
              have HATX := Lib.hid hatx
              clear hatx ex2
              go_wp2_with fail
              go_loop [24] (fun i => ∃ q : Nat, q ≤ gone.length + 1 ∧ i = .int .i64 (q : Int)) (fun i => gone.length + 1 - (intOf i).toNat)
              case atStart => exact ⟨0, Nat.zero_le _, rfl⟩
              case round =>
                obtain ⟨q, hq, rfl⟩ := hrel
                by_cases hq1 : q < gone.length + 1
                · obtain ⟨gx, exx, hcellx⟩ := HATX.out.2 (by rw [HGL.out]; omega)
                  first | subst exx | (injection exx with exx; injection exx with exx; subst exx)
                  obtain ⟨z, hz⟩ : ∃ z, GT[q]? = some z := ⟨_, List.getElem?_eq_getElem (by rw [HGL.out]; exact hq1)⟩
                  have dx := hcellx q z hz
                  have HRD := Lib.hid (Read_no bP bC bF k z st w5 HT.out.sl.is (HT.out.gn z (List.mem_of_getElem? hz)).none)
                  clear hcellx hz
                  go_wp2_with fail
                  refine HRD.out.mono ?_
                  rintro e wq ⟨rfl, rfl⟩
                  go_wp2
                  go_round
                  case rel => exact ⟨q + 1, by omega, by go_num⟩
                  case measure => simp [intOf]; omega
                · go_wp2_with fail
                  refine (Live_any bP bC bF k st _ HT.out.sl.is).mono ?_
                  rintro e w7 hlv
                  obtain ⟨A7, cap7, rfl, hat7, hb7⟩ := live_at hlv
                  have HT7 := Lib.hid (HT.out.below hb7)
                  have HAT7 := Lib.hid hat7
                  have hc7 := hat7.1
                  have hcnt := live_count HT.out.ok
                  rw [HT.out.len] at hcnt
                  have HCNT := Lib.hid hcnt
                  have hll : st.live.length ≤ 64 := by omega
                  have hfl : st.free.length ≤ 64 := by omega
                  have HAP := Lib.hid (live_apart (s := st) (by rw [HT.out.len]; exact h2))
                  have HNN := Lib.hid (live_nonneg st)
                  have HFR := Lib.hid (fun wz (hz : SlabIn FT wz bP bC bF k st) => Free_any bP bC bF k st wz hz.is)
                  clear hlv hat7 hb7 hcnt HATX HT
                  generalize st.live = lv at *
                  generalize st.free.length = fl at *
                  go_wp2_with fail
                  go_loopw [28] (fun i wx => ∃ q : Nat, q ≤ lv.length ∧ i = .int .i64 (q : Int) ∧ ∃ m, wx = w7.drewN m) (fun i _ => lv.length - (intOf i).toNat)
                  case atStart => exact ⟨0, Nat.zero_le _, rfl, 0, rfl⟩
                  case round =>
                    obtain ⟨q8, hq8, rfl, m8, rfl⟩ := hrel
                    by_cases hlt8 : q8 < lv.length
                    · go_wp2_with fail
                      go_loopw [29] (fun i wx => ∃ p : Nat, p ≤ q8 ∧ i = .int .i64 (p : Int) ∧ ∃ m, wx = w7.drewN m) (fun i _ => q8 - (intOf i).toNat)
                      case atStart => exact ⟨0, Nat.zero_le _, rfl, m8, rfl⟩
                      case round =>
                        obtain ⟨p9, hp9, rfl, m9, rfl⟩ := hrel
                        by_cases hlt9 : p9 < q8
                        · obtain ⟨g7, rfl, hcell7⟩ := HAT7.out.2 (by omega)
                          have d8 := hcell7 q8 _ (List.getElem?_eq_getElem hlt8)
                          have d9 := hcell7 p9 _ (List.getElem?_eq_getElem (show p9 < lv.length by omega))
                          have hap := List.pairwise_iff_getElem.1 HAP.out p9 q8 (by omega) hlt8 hlt9
                          have n8 := HNN.out _ (List.getElem_mem hlt8)
                          have n9 := HNN.out _ (List.getElem_mem (show p9 < lv.length by omega))
                          clear hcell7
                          generalize lv[q8] = z8 at *
                          generalize lv[p9] = z9 at *
                          have t8 : (z8 % 64 == z9 % 64) = false := by simp; omega
                          have t9 : (z8.tmod 64 == z9.tmod 64) = false := by rw [Int.tmod_eq_emod_of_nonneg n8, Int.tmod_eq_emod_of_nonneg n9]; exact t8
                          clear hap
                          go_wp2_with fail
                          go_quiet (fail)
                          go_wp2
                          go_roundw
                          case rel => exact ⟨p9 + 1, by omega, by go_num, m9 + nq, rfl⟩
                          case measure => simp [intOf]; omega
                        · go_wp2
                          go_roundw
                          case rel => exact ⟨q8 + 1, by omega, by go_num, m9, rfl⟩
                          case measure => simp [intOf]; omega
                    · have HT8 := Lib.hid (HT7.out.below (below_drewN (Below.refl _ _) m8))
                      have t8 : ((lv.length : Int) + (fl : Int) != (n : Int)) = false := by have := HCNT.out; simp; omega
                      go_wp2_with fail
                      refine (HFR.out _ HT8.out.sl).mono ?_
                      rintro e w8 ⟨rfl, rfl⟩
                      go_wp2
                      go_roundw
                      case rel => exact ⟨j + 1, _, _, _, by omega, by go_num, by first | exact HT8.out | (have := HT8.out; rw [HGL.out] at this; exact this)⟩
                      case measure => simp [intOf]; omega
        have q1 : (o.do_ == 1) = false := by simp [d1]
        by_cases d3 : o.do_ = 3
        · rw [d3] at a0
          clear d0 d1 d3 q0 q1
          have HWS := Lib.hid (fun (c : SC) (hc : c ∈ s.cells) => (HI3.out.sl.is.ws c hc).2)
          have HLF := Lib.hid (fun z (hz : z ∈ s.live) => live_find (s := s) (by rw [HI3.out.len]; exact h2) hz)
          have hll : s.live.length ≤ 64 := by have := live_count HI3.out.ok; rw [HI3.out.len] at this; omega
          go_wp2_with fail
          refine (Live_any bP bC bF k s _ HI3.out.sl.is).mono ?_
          rintro e w4 hlv
          obtain ⟨A7, cap7, rfl, hat7, hb7, hf7⟩ := live_at' hlv
          have HNF := Lib.hid (show ∀ a, A7 = some a → ¬ FT a.block from fun a ea hf => by have := hf7 a ea; have := HI3.out.sl.lt hf; omega)
          have HI4 := Lib.hid (HI3.out.below hb7)
          have HAT := Lib.hid hat7
          have hc7 := hat7.1
          clear hlv hat7 hb7 hf7 HI3 a0 a3
          generalize s.live = lv at *
          go_wp2_with fail
          go_loopw [16, 17] (fun v3 i wx => ∃ q : Nat, q ≤ lv.length ∧ i = .int .i64 (q : Int) ∧ WasI w4.heap.size wx k s lv v3 q ∧ Below w4.heap.size w4 wx) (fun _ i _ => lv.length - (intOf i).toNat)
          case atStart => exact ⟨0, Nat.zero_le _, rfl, WasI.nil _ _ _ _ _, Below.refl _ _⟩
          case round =>
            obtain ⟨q, hq, rfl, hW, hBl⟩ := hrel
            have HW3 := Lib.hid hW
            have HBL := Lib.hid hBl
            have HI5 := Lib.hid (HI4.out.below hBl)
            clear hW hBl
            by_cases hq1 : q < lv.length
            · as_aux_lemma =>
                obtain ⟨g7, rfl, hcell7⟩ := HAT.out.2 (by omega)
                have hz7 : lv[q]? = some lv[q] := List.getElem?_eq_getElem hq1
                obtain ⟨idx, c, hfi, hci⟩ := HLF.out _ (List.getElem_mem hq1)
                have d7 := hcell7 q _ hz7
                have d8 := (HBL.out.cell (block_lt_of_cell d7)).trans d7
                have HZ := Lib.hid hz7
                have HF := Lib.hid hfi
                have HC := Lib.hid hci
                clear hcell7 d7 hz7 hfi hci
                generalize lv[q] = z at *
                have HRD := Lib.hid (Read_yes bP bC bF k idx z s c _ HI5.out.sl.is HF.out HC.out)
                go_wp2_with fail
                refine HRD.out.mono ?_
                rintro e w5 hrd
                obtain ⟨v, rfl, hwas, hb5⟩ := WasAt.of_read hrd HBL.out.size
                rw [(HWS.out c (List.mem_of_getElem? HC.out)).1] at hwas
                obtain ⟨Av, capv, rfl, hwas2⟩ : ∃ Av capv, v = .slice Av k capv ∧ WasAt w4.heap.size w5 k v c.ws := by
                  obtain ⟨Av, capv, e, h⟩ := hwas
                  exact ⟨Av, capv, e, ⟨Av, capv, e, h⟩⟩
                have HWA := Lib.hid hwas2
                have HW5 := Lib.hid (HW3.out.below hb5)
                have HB5 := Lib.hid (HBL.out.trans (hb5.mono HBL.out.size))
                clear hrd hwas hwas2 hb5 HRD
                go_wp2_with (at_builtin; refine wpList_append_was w5 rfl _ _ rfl rfl rfl HW5.out HZ.out HF.out HC.out HWA.out HB5.out.size ?c1 ?_)
                case c1 => omega
                intro g cap' w6 hW6 hB6
                have HW6 := Lib.hid hW6
                have HB6 := Lib.hid (HB5.out.trans hB6)
                clear hW6 hB6 HW5 HB5 HWA HW3 HBL HI5
                go_wp2
                go_roundw
                case rel => exact ⟨q + 1, by omega, by go_num, HW6.out, HB6.out⟩
                case measure => simp [intOf]; omega
            · obtain rfl : q = lv.length := by omega
              have a3 := (HI5.out.lo.cell (p := ⟨b, off + j * 4 + 3, none⟩) hb).trans HO.out.c3
              cases hfd : s.find hz with
              | none =>
                have HWR := Lib.hid (Write_no bP bC bF k hz o.A o.len o.cap s _ HI5.out.sl.is hfd)
                clear hfd
                go_wp2_with fail
                refine HWR.out.mono ?_
                rintro e w6 ⟨rfl, rfl⟩
                go_wp2
                go_roundw
                case rel => exact ⟨j + 1, s, all, gone, by omega, by go_num, HI5.out.next⟩
                case measure => simp [intOf]; omega
              | some i =>
                by_cases hok : o.len = k
                · obtain ⟨c, hc⟩ : ∃ c, s.cells[i]? = some c := by obtain ⟨m, c, _, _, _, hc, _, _⟩ := Sl.find_some hfd; exact ⟨c, hc⟩
                  have HWX := Lib.hid (show Words wr o.A k ns by rw [← hok]; exact HWD.out.below HI5.out.lo)
                  have HWR := Lib.hid (show Calls Try.prog 21 #[.pointer (some ⟨bP, 0, none⟩), .int .i64 hz, .slice o.A o.len o.cap] wr (InTells FT bP bC bF k (s.put i { c with ws := ns } s.free) (.int .i64 0) wr) by rw [hok]; exact Write_in FT bP bC bF k i hz o.A o.cap ns s c wr HI5.out.sl hfd hc HWX.out)
                  have HOK := Lib.hid (HI5.out.ok.write (ns := ns) hc)
                  have HGN := Lib.hid (fun x (hx : x ∈ gone) => (HI5.out.gn x hx).put (c' := { c with ws := ns }) (fr := s.free) hc (Nat.le_refl _))
                  have HLN := Lib.hid (show (s.put i { c with ws := ns } s.free).cells.length = n by rw [put_len]; exact HI5.out.len)
                  have HFW := Lib.hid (find_write (ns := ns) hc)
                  have HCI := Lib.hid (fun (x : Nat) => getElem?_put (s := s) (i := i) (j := x) (c' := { c with ws := ns }) (fr := s.free) (List.getElem?_eq_some_iff.1 hc).1)
                  have HFD := Lib.hid hfd
                  have HC := Lib.hid hc
                  have HOKL := Lib.hid hok
                  clear hfd hc hok
                  generalize s.put i { c with ws := ns } s.free = st at *
                  go_wp2_with fail
                  refine HWR.out.mono ?_
                  rintro e w6 ⟨rfl, hS, hK⟩
                  have HI6 := Lib.hid (HI5.out.call HLO.out hS hK (HOK.out.mono (Nat.le_succ _)) HLN.out HGN.out)
                  have HW6 := Lib.hid (HW3.out.kept hK (fun x hx => HI4.out.sl.lt hx))
                  have HAT6 := Lib.hid ((HAT.out.below HBL.out).kept hK HNF.out)
                  clear hS hK HWR HOK HGN HLN a3
                  go_wp2_with fail
                  go_loopw [20] (fun i wx => ∃ q : Nat, q ≤ lv.length ∧ i = .int .i64 (q : Int) ∧ Below w6.heap.size w6 wx) (fun i _ => lv.length - (intOf i).toNat)
                  case atStart => exact ⟨0, Nat.zero_le _, rfl, Below.refl _ _⟩
                  case round =>
                    obtain ⟨q, hq, rfl, hBx⟩ := hrel
                    have HI7 := Lib.hid (HI6.out.below hBx)
                    have HBX := Lib.hid hBx
                    have HW7 := Lib.hid (HW6.out.below hBx)
                    have HAT7 := Lib.hid (HAT6.out.below hBx)
                    clear hBx HI6 HW6 HAT6 HI5 HW3
                    by_cases hq1 : q < lv.length
                    · obtain ⟨g7, rfl, hcell7⟩ := HAT7.out.2 (by omega)
                      obtain ⟨g3, cap3, rfl, hc3, hall3⟩ := HW7.out.at_ (by omega)
                      have hz7 : lv[q]? = some lv[q] := List.getElem?_eq_getElem hq1
                      have d7 := hcell7 q _ hz7
                      obtain ⟨v, idx, c0, d8, hfi, hci, hwas⟩ := hall3 q _ hq1 hz7
                      clear hcell7 hall3 hz7
                      generalize lv[q] = z at *
                      by_cases e : z = hz
                      · as_aux_lemma =>
                          subst e
                          obtain rfl : i = idx := by have h := HFD.out; rw [hfi] at h; injection h with h; exact h.symm
                          have HRD := Lib.hid (show Calls Try.prog 18 #[.pointer (some ⟨bP, 0, none⟩), .int .i64 z] wr (ReadTold ns wr) from Read_yes bP bC bF k i z st { c with ws := ns } _ HI7.out.sl.is ((HFW.out z).trans hfi) (by rw [HCI.out, if_pos rfl]))
                          have t1 : (z == z) = true := by simp
                          have HD7 := Lib.hid d7
                          have HD8 := Lib.hid d8
                          clear hfi hci hwas
                          go_wp2_with fail
                          refine HRD.out.mono ?_
                          rintro e w8 hrd
                          obtain ⟨v8, rfl, hwas8, hb8⟩ := WasAt.of_read hrd (Nat.le_refl _)
                          have hnl : ns.length = k := by have := HWD.out.1; rw [HOKL.out] at this; exact this
                          rw [hnl] at hwas8
                          obtain ⟨A8, cap8, rfl, hc8, hw8⟩ := hwas8.words
                          have HSA := Lib.hid (show Calls Try.prog 20 #[.slice A8 k cap8, .slice o.A o.len o.cap] w8 fun e w' => e = .returned (.bool true) ∧ Below w8.heap.size w8 w' by
                            rw [HOKL.out]
                            exact Same_yes A8 o.A k cap8 o.cap ns w8 (by omega) hc8 (by rw [← HOKL.out]; exact hwl) hw8 (by rw [← HOKL.out]; exact HWD.out.below (HI7.out.below hb8).lo))
                          have x7 := (hb8.cell (block_lt_of_cell HD7.out)).trans HD7.out
                          have x8 := (hb8.cell (block_lt_of_cell HD8.out)).trans HD8.out
                          have x3 := ((HI7.out.below hb8).lo.cell (p := ⟨b, off + j * 4 + 3, none⟩) hb).trans HO.out.c3
                          have HX8 := Lib.hid (HBX.out.trans (hb8.mono HBX.out.size))
                          clear hrd hwas8 hb8 hw8 hnl d7 d8 HRD
                          go_wp2_with fail
                          refine HSA.out.mono ?_
                          rintro e w9 ⟨rfl, hb9⟩
                          have HX9 := Lib.hid (HX8.out.trans (hb9.mono HX8.out.size))
                          clear hb9
                          go_wp2
                          go_roundw
                          case rel => exact ⟨q + 1, by omega, by go_num, HX9.out⟩
                          case measure => simp [intOf]; omega
                      · as_aux_lemma =>
                          have hix : i ≠ idx := fun h => e (find_one hfi (by rw [← h]; exact HFD.out))
                          have HRD := Lib.hid (Read_yes bP bC bF k idx z st c0 _ HI7.out.sl.is ((HFW.out z).trans hfi) (by rw [HCI.out, if_neg hix]; exact hci))
                          have t1 : (z == hz) = false := by simp [e]
                          have HCL := Lib.hid (HWS.out c0 (List.mem_of_getElem? hci)).1
                          obtain ⟨Av, capv, rfl, hcv, hwv⟩ := hwas.words
                          have HWV := Lib.hid hwv
                          have HD7 := Lib.hid d7
                          have HD8 := Lib.hid d8
                          clear hfi hci hwas hwv hix e
                          go_wp2_with fail
                          refine HRD.out.mono ?_
                          rintro e w8 hrd
                          obtain ⟨v8, rfl, hwas8, hb8⟩ := WasAt.of_read hrd (Nat.le_refl _)
                          rw [HCL.out] at hwas8
                          obtain ⟨A8, cap8, rfl, hc8, hw8⟩ := hwas8.words
                          have HSA := Lib.hid (Same_yes A8 Av k cap8 capv c0.ws w8 (by omega) hc8 hcv hw8 (HWV.out.below hb8))
                          have x7 := (hb8.cell (block_lt_of_cell HD7.out)).trans HD7.out
                          have x8 := (hb8.cell (block_lt_of_cell HD8.out)).trans HD8.out
                          have HX8 := Lib.hid (HBX.out.trans (hb8.mono HBX.out.size))
                          clear hrd hwas8 hb8 hw8 d7 d8 HRD
                          go_wp2_with fail
                          refine HSA.out.mono ?_
                          rintro e w9 ⟨rfl, hb9⟩
                          have HX9 := Lib.hid (HX8.out.trans (hb9.mono HX8.out.size))
                          clear hb9
                          go_wp2
                          go_roundw
                          case rel => exact ⟨q + 1, by omega, by go_num, HX9.out⟩
                          case measure => simp [intOf]; omega
                    · have HT := Lib.hid HI7.out
                      clear HI7 HW7 HAT7
                      as_aux_lemma =>
                        obtain ⟨GT, hGT⟩ : ∃ GT, GT = gone := ⟨_, rfl⟩
                        have HGL := Lib.hid (show GT.length = gone.length by rw [hGT])
                        rw [← hGT] at HT
                        obtain ⟨Ax, capx, ex, hatx⟩ := HT.out.g2.at_
                        clear hGT
                        rw [HGL.out] at ex
                        injection ex with ex1 ex2 ex3
                        subst ex1
                        subst ex3
                        have hcx := hatx.1
                        rw [HGL.out] at hcx
                        have hgb : gone.length ≤ 100 := by have := HT.out.l2; rw [HGL.out] at this; omega
                        have HATX := Lib.hid hatx
                        clear hatx ex2
                        go_wp2_with fail
                        go_loop [24] (fun i => ∃ q : Nat, q ≤ gone.length ∧ i = .int .i64 (q : Int)) (fun i => gone.length - (intOf i).toNat)
                        case atStart => exact ⟨0, Nat.zero_le _, rfl⟩
                        case round =>
                          obtain ⟨q, hq, rfl⟩ := hrel
                          by_cases hq1 : q < gone.length
                          · obtain ⟨gx, exx, hcellx⟩ := HATX.out.2 (by rw [HGL.out]; omega)
                            first | subst exx | (injection exx with exx; injection exx with exx; subst exx)
                            obtain ⟨z, hz⟩ : ∃ z, GT[q]? = some z := ⟨_, List.getElem?_eq_getElem (by rw [HGL.out]; exact hq1)⟩
                            have dx := hcellx q z hz
                            have HRD := Lib.hid (Read_no bP bC bF k z st wr HT.out.sl.is (HT.out.gn z (List.mem_of_getElem? hz)).none)
                            clear hcellx hz
                            go_wp2_with fail
                            refine HRD.out.mono ?_
                            rintro e wq ⟨rfl, rfl⟩
                            go_wp2
                            go_round
                            case rel => exact ⟨q + 1, by omega, by go_num⟩
                            case measure => simp [intOf]; omega
                          · go_wp2_with fail
                            refine (Live_any bP bC bF k st _ HT.out.sl.is).mono ?_
                            rintro e w7 hlv
                            obtain ⟨A7, cap7, rfl, hat7, hb7⟩ := live_at hlv
                            have HT7 := Lib.hid (HT.out.below hb7)
                            have HAT7 := Lib.hid hat7
                            have hc7 := hat7.1
                            have hcnt := live_count HT.out.ok
                            rw [HT.out.len] at hcnt
                            have HCNT := Lib.hid hcnt
                            have hll : st.live.length ≤ 64 := by omega
                            have hfl : st.free.length ≤ 64 := by omega
                            have HAP := Lib.hid (live_apart (s := st) (by rw [HT.out.len]; exact h2))
                            have HNN := Lib.hid (live_nonneg st)
                            have HFR := Lib.hid (fun wz (hz : SlabIn FT wz bP bC bF k st) => Free_any bP bC bF k st wz hz.is)
                            clear hlv hat7 hb7 hcnt HATX HT
                            generalize st.live = lv at *
                            generalize st.free.length = fl at *
                            go_wp2_with fail
                            go_loopw [28] (fun i wx => ∃ q : Nat, q ≤ lv.length ∧ i = .int .i64 (q : Int) ∧ ∃ m, wx = w7.drewN m) (fun i _ => lv.length - (intOf i).toNat)
                            case atStart => exact ⟨0, Nat.zero_le _, rfl, 0, rfl⟩
                            case round =>
                              obtain ⟨q8, hq8, rfl, m8, rfl⟩ := hrel
                              by_cases hlt8 : q8 < lv.length
                              · go_wp2_with fail
                                go_loopw [29] (fun i wx => ∃ p : Nat, p ≤ q8 ∧ i = .int .i64 (p : Int) ∧ ∃ m, wx = w7.drewN m) (fun i _ => q8 - (intOf i).toNat)
                                case atStart => exact ⟨0, Nat.zero_le _, rfl, m8, rfl⟩
                                case round =>
                                  obtain ⟨p9, hp9, rfl, m9, rfl⟩ := hrel
                                  by_cases hlt9 : p9 < q8
                                  · obtain ⟨g7, rfl, hcell7⟩ := HAT7.out.2 (by omega)
                                    have d8 := hcell7 q8 _ (List.getElem?_eq_getElem hlt8)
                                    have d9 := hcell7 p9 _ (List.getElem?_eq_getElem (show p9 < lv.length by omega))
                                    have hap := List.pairwise_iff_getElem.1 HAP.out p9 q8 (by omega) hlt8 hlt9
                                    have n8 := HNN.out _ (List.getElem_mem hlt8)
                                    have n9 := HNN.out _ (List.getElem_mem (show p9 < lv.length by omega))
                                    clear hcell7
                                    generalize lv[q8] = z8 at *
                                    generalize lv[p9] = z9 at *
                                    have t8 : (z8 % 64 == z9 % 64) = false := by simp; omega
                                    have t9 : (z8.tmod 64 == z9.tmod 64) = false := by rw [Int.tmod_eq_emod_of_nonneg n8, Int.tmod_eq_emod_of_nonneg n9]; exact t8
                                    clear hap
                                    go_wp2_with fail
                                    go_quiet (fail)
                                    go_wp2
                                    go_roundw
                                    case rel => exact ⟨p9 + 1, by omega, by go_num, m9 + nq, rfl⟩
                                    case measure => simp [intOf]; omega
                                  · go_wp2
                                    go_roundw
                                    case rel => exact ⟨q8 + 1, by omega, by go_num, m9, rfl⟩
                                    case measure => simp [intOf]; omega
                              · have HT8 := Lib.hid (HT7.out.below (below_drewN (Below.refl _ _) m8))
                                have t8 : ((lv.length : Int) + (fl : Int) != (n : Int)) = false := by have := HCNT.out; simp; omega
                                go_wp2_with fail
                                refine (HFR.out _ HT8.out.sl).mono ?_
                                rintro e w8 ⟨rfl, rfl⟩
                                go_wp2
                                go_roundw
                                case rel => exact ⟨j + 1, _, _, _, by omega, by go_num, by first | exact HT8.out | (have := HT8.out; rw [HGL.out] at this; exact this)⟩
                                case measure => simp [intOf]; omega
                · have HWR := Lib.hid (Write_len bP bC bF k i hz o.A o.len o.cap s _ HI5.out.sl.is hfd hok)
                  clear hfd hok
                  go_wp2_with fail
                  refine HWR.out.mono ?_
                  rintro e w6 ⟨rfl, rfl⟩
                  go_wp2
                  go_roundw
                  case rel => exact ⟨j + 1, s, all, gone, by omega, by go_num, HI5.out.next⟩
                  case measure => simp [intOf]; omega
        have q3 : (o.do_ == 3) = false := by simp [d3]
        clear d0 d1 d3
        have HT := Lib.hid HI3.out.next
        clear HI3
        as_aux_lemma =>
          obtain ⟨GT, hGT⟩ : ∃ GT, GT = gone := ⟨_, rfl⟩
          have HGL := Lib.hid (show GT.length = gone.length by rw [hGT])
          rw [← hGT] at HT
          obtain ⟨Ax, capx, ex, hatx⟩ := HT.out.g2.at_
          clear hGT
          rw [HGL.out] at ex
          injection ex with ex1 ex2 ex3
          subst ex1
          subst ex3
          have hcx := hatx.1
          rw [HGL.out] at hcx
          have hgb : gone.length ≤ 100 := by have := HT.out.l2; rw [HGL.out] at this; omega
          have HATX := Lib.hid hatx
          clear hatx ex2
          go_wp2_with fail
          go_loop [24] (fun i => ∃ q : Nat, q ≤ gone.length ∧ i = .int .i64 (q : Int)) (fun i => gone.length - (intOf i).toNat)
          case atStart => exact ⟨0, Nat.zero_le _, rfl⟩
          case round =>
            obtain ⟨q, hq, rfl⟩ := hrel
            by_cases hq1 : q < gone.length
            · obtain ⟨gx, exx, hcellx⟩ := HATX.out.2 (by rw [HGL.out]; omega)
              first | subst exx | (injection exx with exx; injection exx with exx; subst exx)
              obtain ⟨z, hz⟩ : ∃ z, GT[q]? = some z := ⟨_, List.getElem?_eq_getElem (by rw [HGL.out]; exact hq1)⟩
              have dx := hcellx q z hz
              have HRD := Lib.hid (Read_no bP bC bF k z s w3 HT.out.sl.is (HT.out.gn z (List.mem_of_getElem? hz)).none)
              clear hcellx hz
              go_wp2_with fail
              refine HRD.out.mono ?_
              rintro e wq ⟨rfl, rfl⟩
              go_wp2
              go_round
              case rel => exact ⟨q + 1, by omega, by go_num⟩
              case measure => simp [intOf]; omega
            · go_wp2_with fail
              refine (Live_any bP bC bF k s _ HT.out.sl.is).mono ?_
              rintro e w7 hlv
              obtain ⟨A7, cap7, rfl, hat7, hb7⟩ := live_at hlv
              have HT7 := Lib.hid (HT.out.below hb7)
              have HAT7 := Lib.hid hat7
              have hc7 := hat7.1
              have hcnt := live_count HT.out.ok
              rw [HT.out.len] at hcnt
              have HCNT := Lib.hid hcnt
              have hll : s.live.length ≤ 64 := by omega
              have hfl : s.free.length ≤ 64 := by omega
              have HAP := Lib.hid (live_apart (s := s) (by rw [HT.out.len]; exact h2))
              have HNN := Lib.hid (live_nonneg s)
              have HFR := Lib.hid (fun wz (hz : SlabIn FT wz bP bC bF k s) => Free_any bP bC bF k s wz hz.is)
              clear hlv hat7 hb7 hcnt HATX HT
              generalize s.live = lv at *
              generalize s.free.length = fl at *
              go_wp2_with fail
              go_loopw [28] (fun i wx => ∃ q : Nat, q ≤ lv.length ∧ i = .int .i64 (q : Int) ∧ ∃ m, wx = w7.drewN m) (fun i _ => lv.length - (intOf i).toNat)
              case atStart => exact ⟨0, Nat.zero_le _, rfl, 0, rfl⟩
              case round =>
                obtain ⟨q8, hq8, rfl, m8, rfl⟩ := hrel
                by_cases hlt8 : q8 < lv.length
                · go_wp2_with fail
                  go_loopw [29] (fun i wx => ∃ p : Nat, p ≤ q8 ∧ i = .int .i64 (p : Int) ∧ ∃ m, wx = w7.drewN m) (fun i _ => q8 - (intOf i).toNat)
                  case atStart => exact ⟨0, Nat.zero_le _, rfl, m8, rfl⟩
                  case round =>
                    obtain ⟨p9, hp9, rfl, m9, rfl⟩ := hrel
                    by_cases hlt9 : p9 < q8
                    · obtain ⟨g7, rfl, hcell7⟩ := HAT7.out.2 (by omega)
                      have d8 := hcell7 q8 _ (List.getElem?_eq_getElem hlt8)
                      have d9 := hcell7 p9 _ (List.getElem?_eq_getElem (show p9 < lv.length by omega))
                      have hap := List.pairwise_iff_getElem.1 HAP.out p9 q8 (by omega) hlt8 hlt9
                      have n8 := HNN.out _ (List.getElem_mem hlt8)
                      have n9 := HNN.out _ (List.getElem_mem (show p9 < lv.length by omega))
                      clear hcell7
                      generalize lv[q8] = z8 at *
                      generalize lv[p9] = z9 at *
                      have t8 : (z8 % 64 == z9 % 64) = false := by simp; omega
                      have t9 : (z8.tmod 64 == z9.tmod 64) = false := by rw [Int.tmod_eq_emod_of_nonneg n8, Int.tmod_eq_emod_of_nonneg n9]; exact t8
                      clear hap
                      go_wp2_with fail
                      go_quiet (fail)
                      go_wp2
                      go_roundw
                      case rel => exact ⟨p9 + 1, by omega, by go_num, m9 + nq, rfl⟩
                      case measure => simp [intOf]; omega
                    · go_wp2
                      go_roundw
                      case rel => exact ⟨q8 + 1, by omega, by go_num, m9, rfl⟩
                      case measure => simp [intOf]; omega
                · have HT8 := Lib.hid (HT7.out.below (below_drewN (Below.refl _ _) m8))
                  have t8 : ((lv.length : Int) + (fl : Int) != (n : Int)) = false := by have := HCNT.out; simp; omega
                  go_wp2_with fail
                  refine (HFR.out _ HT8.out.sl).mono ?_
                  rintro e w8 ⟨rfl, rfl⟩
                  go_wp2
                  go_roundw
                  case rel => exact ⟨j + 1, _, _, _, by omega, by go_num, by first | exact HT8.out | (have := HT8.out; rw [HGL.out] at this; exact this)⟩
                  case measure => simp [intOf]; omega
      · go_wp2_with fail
        refine (live_any _).mono ?_
        rintro e w6 ⟨rfl, hb⟩
        have HB8 := Lib.hid (HI.out.lo.trans (hb.mono HI.out.lo.size))
        clear hb
        go_wp2
        go_ret
        exact ⟨rfl, HB8.out⟩
end Go.Proofs.Ytdchoaihbjmpbab.slabGood
