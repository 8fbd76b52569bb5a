/- For all numbers and lists of calls the law SlabScripts returns true: a slab answers as the document's own one (of at most 60 calls, 40 words, else only the document's examples are asked). -/
import Derived.Test.YtbmapjbjpgoibaaRef12
import Derived.Deep.RegionHeld3
namespace Go.Proofs.Ytbmapjbjpgoibaa.slabScripts
open Go.ChangeShapes Go.WideShapes Go.ChangeAt Go.RowKit
set_option linter.unusedVariables false

set_option maxRecDepth 100000 in
set_option maxHeartbeats 8000000 in
theorem main (n k : Nat) (A : Option Addr) (len cap : Nat) {W : World} (h1 : 1 ≤ n) (h2 : n ≤ 64) (h3 : k ≤ 32) (hops : IsOps W A len cap) :
    Calls Try.prog 3 #[.int .i64 n, .int .i64 k, .slice A len cap] W fun e w' => e = .returned (.bool true) ∧ Below W.heap.size W w' := by
  have hlm : len ≤ 9223372036854775807 := by have := hops.2.1; have := hops.1; unfold maxLen at *; omega
  have hlc := hops.1
  have HOPS := Lib.hid hops
  clear hops
  go_enter Try.func3, Try.ntmps3
  go_wp2_with fail
  refine (few_any A len cap _ HOPS.out).mono ?_
  rintro e w0 ⟨r, rfl, rfl, hfew⟩
  cases r with
  | false =>
    clear hfew
    go_wp2_with fail
    refine (live_any _).mono ?_
    rintro e w6 ⟨rfl, hb⟩
    have HB8 := Lib.hid hb
    clear hb
    go_wp2
    go_ret
    exact ⟨rfl, HB8.out⟩
  | true =>
    have hl60 := (hfew rfl).1
    clear hfew
    go_wp2_with fail
    refine (New_in n k W h1 h2 h3).mono ?_
    rintro e w1 ⟨FT, bP, bC, bF, bs, rfl, hbl, hS, hB, hlo⟩
    have HS1 := Lib.hid hS
    have HB1 := Lib.hid hB
    have HLO := Lib.hid hlo
    have HBL := Lib.hid hbl
    clear hS hB hlo hbl
    go_wp2_with fail
    refine (ref_New n k w1 h1 h2 h3).mono ?_
    rintro e w2 ⟨r0, rfl, hR, hB, hge⟩
    have HI0 := Lib.hid (show SInv FT W w2 bP bC bF k n 0 r0 (newS n k bs) (.slice none 0 0) [] from
      ⟨HS1.out.below hB, hR bs HBL.out, (fun b hb hf => by have := hge b hb; have := HS1.out.lt hf; omega), (fun b hb => Nat.le_trans HB1.out.size (hge b hb)), Sl.Ok.new n k bs HBL.out, by simp [newS, HBL.out], Giv.nil _ _ _, Nat.le_refl _, (fun z hz => by cases hz), HB1.out.trans (hB.mono HB1.out.size)⟩)
    clear hR hB hge HS1 HB1 HBL
    obtain ⟨bR, hbR⟩ : ∃ bR, r0.bR = bR := ⟨_, rfl⟩
    rw [hbR]
    have HBR := Lib.hid hbR
    clear hbR
    go_wp2_with fail
    go_loopw [11, 12] (fun v1 i wr => ∃ (j : Nat) (r : RB) (s : Sl) (all : List Int), j ≤ len ∧ i = .int .i64 (j : Int) ∧ r.bR = bR ∧ SInv FT W wr bP bC bF k n j r s v1 all) (fun _ i _ => len - (intOf i).toNat)
    case atStart => exact ⟨0, r0, _, [], Nat.zero_le _, rfl, HBR.out, HI0.out⟩
    case round =>
      obtain ⟨j, r, s, all, hj, rfl, hbR, hI⟩ := hrel
      have HI := Lib.hid hI
      clear hI HI0 HBR
      subst hbR
      by_cases hlt : j < len
      · obtain ⟨b, off, rfl, hb, hall⟩ := HOPS.out.2.2 (by omega)
        obtain ⟨o, ho⟩ := hall j hlt
        clear hall
        have c0 := (HI.out.lo.cell (p := ⟨b, off + j * 4, none⟩) hb).trans ho.c0
        have c1 := (HI.out.lo.cell (p := ⟨b, off + j * 4 + 1, none⟩) hb).trans ho.c1
        have c2 := (HI.out.lo.cell (p := ⟨b, off + j * 4 + 2, none⟩) hb).trans ho.c2
        have c3 := (HI.out.lo.cell (p := ⟨b, off + j * 4 + 3, none⟩) hb).trans ho.c3
        obtain ⟨hwl, ns, hwords⟩ := words_in ho.ws
        have HWD := Lib.hid hwords
        obtain ⟨L, lcap, e1, hat⟩ := HI.out.g1.at_
        have HOF := Lib.hid (of_small o.do_ o.h o.own o.A L o.len o.cap lcap all wr hat (by have := HI.out.l1; omega) (small_wf ho.w1) HI.out.sm)
        have HO := Lib.hid ho
        clear ho hat hwords
        subst e1
        go_wp2_with fail
        refine HOF.out.mono ?_
        rintro e w3 ⟨hz, rfl, hsm, hb3⟩
        have HSM := Lib.hid hsm
        have HI3 := Lib.hid (HI.out.below hb3)
        have a0 := (HI3.out.lo.cell (p := ⟨b, off + j * 4, none⟩) hb).trans HO.out.c0
        have a3 := (HI3.out.lo.cell (p := ⟨b, off + j * 4 + 3, none⟩) hb).trans HO.out.c3
        have hb3s : b < w3.heap.size := Nat.lt_of_lt_of_le hb HI3.out.lo.size
        clear hb3 hsm HOF HI c0 c1 c2 c3
        by_cases d0 : o.do_ = 0
        · rw [d0] at a0
          clear d0 HO
          rcases free_cases s with hf | ⟨fs, i, hf⟩
          · have HTK := Lib.hid (Take_full bP bC bF k s w3 HI3.out.sl.is hf)
            have HTR := Lib.hid (ref_Take_full r k s w3 HI3.out.rf hf)
            have HN := Lib.hid HI3.out.next
            have HL1 := Lib.hid HI3.out.l1
            clear hf HI3
            go_wp2_with fail
            refine HTK.out.mono ?_
            rintro e w4 ⟨rfl, rfl⟩
            go_wp2_with fail
            refine HTR.out.mono ?_
            rintro e w4 ⟨rfl, rfl⟩
            go_wp2_with (at_builtin; refine wpList_append_giv w3 rfl _ _ rfl _ all 0 rfl rfl HN.out.g1 HN.out.ltN HN.out.lo.size ?c1 ?_)
            case c1 => have := HL1.out; omega
            intro g cap' w5 hG5 hK5
            have HT := Lib.hid (HN.out.more HL1.out (show Small 0 by unfold Small; decide) hG5 (hK5.mono (fun b _ h => ⟨fun hor => hor.elim h.1.1 h.1.2, h.2⟩)))
            clear hG5 hK5 HN HTK HTR
            as_aux_lemma =>
              go_wp2_with fail
              refine (Free_any bP bC bF k s _ HT.out.sl.is).mono ?_
              rintro e w6 ⟨rfl, rfl⟩
              go_wp2_with fail
              refine (ref_Free' r.bR r rfl k s _ HT.out.rf).mono ?_
              rintro e w6 ⟨rfl, rfl⟩
              go_wp2_with fail
              refine (Live_any bP bC bF k s _ HT.out.sl.is).mono ?_
              rintro e w7 hlv
              obtain ⟨A7, cap7, rfl, hat7, hb7⟩ := live_at hlv
              have HT7 := Lib.hid (HT.out.below hb7)
              have HAT7 := Lib.hid hat7
              have HRL := Lib.hid (ref_Live' r.bR r rfl k s w7 HT7.out.rf)
              have hll : s.live.length ≤ 1000 := by have := live_count HT.out.ok; rw [HT.out.len] at this; omega
              clear hlv hat7 hb7 HT
              go_wp2_with fail
              refine HRL.out.mono ?_
              rintro e w8 hlv
              obtain ⟨A8, cap8, rfl, hat8, hb8⟩ := live_at hlv
              have HT8 := Lib.hid (HT7.out.below hb8)
              have HIY := Lib.hid (Ints_yes A7 A8 cap7 cap8 s.live w8 (HAT7.out.below hb8) hat8 hll)
              clear hlv hat8 hb8 HT7 HRL HAT7
              go_wp2_with fail
              refine HIY.out.mono ?_
              rintro e w9 ⟨rfl, m9, rfl⟩
              have HT9 := Lib.hid (HT8.out.below (below_drewN (Below.refl _ _) m9))
              clear HT8 HIY
              go_wp2
              go_roundw
              case rel => exact ⟨j + 1, r, s, _, by omega, by go_num, rfl, HT9.out⟩
              case measure => simp [intOf]; omega
          · obtain ⟨c, hc⟩ : ∃ c, s.cells[i]? = some c := ⟨_, List.getElem?_eq_getElem (HI3.out.ok.lt i (by rw [hf]; simp))⟩
            have hgj := HI3.out.ok.gn c (List.mem_of_getElem? hc)
            obtain ⟨zh, hzh⟩ : ∃ zh, (c.gen : Int) * 64 + i = zh := ⟨_, rfl⟩
            have HZH := Lib.hid hzh
            have HZ2 := Lib.hid (show 64 * (c.gen : Int) + i = zh by omega)
            have hiL := HI3.out.ok.lt i (by rw [hf]; simp)
            have HSZ := Lib.hid (show Small zh by have := HI3.out.len; unfold Small; omega)
            have HHC := Lib.hid hc
            have HHF := Lib.hid hf
            have HL1 := Lib.hid HI3.out.l1
            clear hc hf hzh hiL hgj
            obtain ⟨st, hst⟩ : ∃ st, s.put i { c with taken := true, ws := List.replicate k 0 } fs = st := ⟨_, rfl⟩
            have HC1 := Lib.hid (Take_in FT bP bC bF k i s c fs zh w3 HI3.out.sl HHC.out HHF.out HZH.out)
            have HOK := Lib.hid ((HI3.out.ok.take (c' := { c with taken := true, ws := List.replicate k 0 }) HHC.out HHF.out rfl rfl).mono (Nat.le_succ j))
            have HLN := Lib.hid (show (s.put i { c with taken := true, ws := List.replicate k 0 } fs).cells.length = n by rw [put_len]; exact HI3.out.len)
            rw [hst] at HC1 HOK HLN
            have HST := Lib.hid hst
            go_wp2_with fail
            refine HC1.out.mono ?_
            rintro e w4 ⟨rfl, hS, hK⟩
            have HC2 := Lib.hid (show Calls Try.prog 15 #[.pointer (some ⟨r.bR, 0, none⟩)] w4 (RefTells r k st (.tuple #[.int .i64 zh, .int .i64 0]) w4) by rw [← HST.out]; exact by have := ref_Take r k i s c fs w4 (HI3.out.rf1 hK) HHC.out HHF.out; rw [HZ2.out] at this; exact this)
            have HS4 := Lib.hid hS
            have HK4 := Lib.hid hK
            clear hS hK hst HC1
            go_wp2_with fail
            refine HC2.out.mono ?_
            rintro e w5 ⟨r', hr', rfl, hR, hK2, hrr⟩
            have HRR := Lib.hid hr'
            have HT := Lib.hid (HI3.out.call HLO.out HS4.out HK4.out hR hK2 hrr HOK.out HLN.out)
            clear hR hK2 hrr hr' HC2 HS4 HK4
            go_wp2_with (at_builtin; refine wpList_append_giv w5 rfl _ _ rfl _ all zh rfl rfl HT.out.g1 HT.out.ltN HT.out.lo.size ?c1 ?_)
            case c1 => have := HL1.out; omega
            intro g cap' w6 hG5 hK5
            have HTT := Lib.hid (HT.out.more HL1.out HSZ.out hG5 (hK5.mono (fun b _ h => ⟨fun hor => hor.elim h.1.1 h.1.2, h.2⟩)))
            clear HT hG5 hK5
            have HT := HTT
            clear HTT
            as_aux_lemma =>
              go_wp2_with fail
              refine (Free_any bP bC bF k st _ HT.out.sl.is).mono ?_
              rintro e w6 ⟨rfl, rfl⟩
              go_wp2_with fail
              refine (ref_Free' r.bR r' HRR.out k st _ HT.out.rf).mono ?_
              rintro e w6 ⟨rfl, rfl⟩
              go_wp2_with fail
              refine (Live_any bP bC bF k st _ HT.out.sl.is).mono ?_
              rintro e w7 hlv
              obtain ⟨A7, cap7, rfl, hat7, hb7⟩ := live_at hlv
              have HT7 := Lib.hid (HT.out.below hb7)
              have HAT7 := Lib.hid hat7
              have HRL := Lib.hid (ref_Live' r.bR r' HRR.out k st w7 HT7.out.rf)
              have hll : st.live.length ≤ 1000 := by have := live_count HT.out.ok; rw [HT.out.len] at this; omega
              clear hlv hat7 hb7 HT
              go_wp2_with fail
              refine HRL.out.mono ?_
              rintro e w8 hlv
              obtain ⟨A8, cap8, rfl, hat8, hb8⟩ := live_at hlv
              have HT8 := Lib.hid (HT7.out.below hb8)
              have HIY := Lib.hid (Ints_yes A7 A8 cap7 cap8 st.live w8 (HAT7.out.below hb8) hat8 hll)
              clear hlv hat8 hb8 HT7 HRL HAT7
              go_wp2_with fail
              refine HIY.out.mono ?_
              rintro e w9 ⟨rfl, m9, rfl⟩
              have HT9 := Lib.hid (HT8.out.below (below_drewN (Below.refl _ _) m9))
              clear HT8 HIY
              go_wp2
              go_roundw
              case rel => exact ⟨j + 1, r', st, _, by omega, by go_num, HRR.out, HT9.out⟩
              case measure => simp [intOf]; omega
        have q0 : (o.do_ == 0) = false := by simp [d0]
        by_cases d1 : o.do_ = 1
        · rw [d1] at a0
          clear d0 d1 q0 HO
          cases hfd : s.find hz with
          | none =>
            have HGV := Lib.hid (Give_no bP bC bF k hz s w3 HI3.out.sl.is hfd)
            have HGR := Lib.hid (ref_Give_no r k hz s w3 HI3.out.rf HSM.out hfd)
            have HT := Lib.hid HI3.out.next
            clear hfd HI3
            go_wp2_with fail
            refine HGV.out.mono ?_
            rintro e w4 ⟨rfl, rfl⟩
            go_wp2_with fail
            refine HGR.out.mono ?_
            rintro e w4 ⟨rfl, rfl⟩
            as_aux_lemma =>
              go_wp2_with fail
              refine (Free_any bP bC bF k s _ HT.out.sl.is).mono ?_
              rintro e w6 ⟨rfl, rfl⟩
              go_wp2_with fail
              refine (ref_Free' r.bR r rfl k s _ HT.out.rf).mono ?_
              rintro e w6 ⟨rfl, rfl⟩
              go_wp2_with fail
              refine (Live_any bP bC bF k s _ HT.out.sl.is).mono ?_
              rintro e w7 hlv
              obtain ⟨A7, cap7, rfl, hat7, hb7⟩ := live_at hlv
              have HT7 := Lib.hid (HT.out.below hb7)
              have HAT7 := Lib.hid hat7
              have HRL := Lib.hid (ref_Live' r.bR r rfl k s w7 HT7.out.rf)
              have hll : s.live.length ≤ 1000 := by have := live_count HT.out.ok; rw [HT.out.len] at this; omega
              clear hlv hat7 hb7 HT
              go_wp2_with fail
              refine HRL.out.mono ?_
              rintro e w8 hlv
              obtain ⟨A8, cap8, rfl, hat8, hb8⟩ := live_at hlv
              have HT8 := Lib.hid (HT7.out.below hb8)
              have HIY := Lib.hid (Ints_yes A7 A8 cap7 cap8 s.live w8 (HAT7.out.below hb8) hat8 hll)
              clear hlv hat8 hb8 HT7 HRL HAT7
              go_wp2_with fail
              refine HIY.out.mono ?_
              rintro e w9 ⟨rfl, m9, rfl⟩
              have HT9 := Lib.hid (HT8.out.below (below_drewN (Below.refl _ _) m9))
              clear HT8 HIY
              go_wp2
              go_roundw
              case rel => exact ⟨j + 1, r, s, _, by omega, by go_num, rfl, HT9.out⟩
              case measure => simp [intOf]; omega
          | some i =>
            obtain ⟨c, hc, htk⟩ : ∃ c, s.cells[i]? = some c ∧ c.taken = true := by obtain ⟨m, c, _, _, _, hc, ht, _⟩ := Sl.find_some hfd; exact ⟨c, hc, ht⟩
            have HHC := Lib.hid hc
            have HTK := Lib.hid htk
            have HFD := Lib.hid hfd
            have HRM := Lib.hid (HI3.out.ok.room hc htk)
            have HGM := Lib.hid (show c.gen < 1000000 by have := HI3.out.ok.gn c (List.mem_of_getElem? hc); omega)
            clear hc htk hfd
            obtain ⟨st, hst⟩ : ∃ st, s.put i { c with taken := false, gen := c.gen + 1 } (s.free ++ [i]) = st := ⟨_, rfl⟩
            have HC1 := Lib.hid (Give_in FT bP bC bF k i hz s c w3 HI3.out.sl HFD.out HHC.out HRM.out HGM.out)
            have HOK := Lib.hid (HI3.out.ok.give HHC.out HTK.out)
            have HLN := Lib.hid (show (s.put i { c with taken := false, gen := c.gen + 1 } (s.free ++ [i])).cells.length = n by rw [put_len]; exact HI3.out.len)
            rw [hst] at HC1 HOK HLN
            have HST := Lib.hid hst
            go_wp2_with fail
            refine HC1.out.mono ?_
            rintro e w4 ⟨rfl, hS, hK⟩
            have HC2 := Lib.hid (show Calls Try.prog 17 #[.pointer (some ⟨r.bR, 0, none⟩), .int .i64 hz] w4 (RefTells r k st (.int .i64 0) w4) by rw [← HST.out]; exact ref_Give r k i hz s c w4 (HI3.out.rf1 hK) HFD.out HHC.out HGM.out HRM.out)
            have HS4 := Lib.hid hS
            have HK4 := Lib.hid hK
            clear hS hK hst HC1
            go_wp2_with fail
            refine HC2.out.mono ?_
            rintro e w5 ⟨r', hr', rfl, hR, hK2, hrr⟩
            have HRR := Lib.hid hr'
            have HT := Lib.hid (HI3.out.call HLO.out HS4.out HK4.out hR hK2 hrr HOK.out HLN.out)
            clear hR hK2 hrr hr' HC2 HS4 HK4
            as_aux_lemma =>
              go_wp2_with fail
              refine (Free_any bP bC bF k st _ HT.out.sl.is).mono ?_
              rintro e w6 ⟨rfl, rfl⟩
              go_wp2_with fail
              refine (ref_Free' r.bR r' HRR.out k st _ HT.out.rf).mono ?_
              rintro e w6 ⟨rfl, rfl⟩
              go_wp2_with fail
              refine (Live_any bP bC bF k st _ HT.out.sl.is).mono ?_
              rintro e w7 hlv
              obtain ⟨A7, cap7, rfl, hat7, hb7⟩ := live_at hlv
              have HT7 := Lib.hid (HT.out.below hb7)
              have HAT7 := Lib.hid hat7
              have HRL := Lib.hid (ref_Live' r.bR r' HRR.out k st w7 HT7.out.rf)
              have hll : st.live.length ≤ 1000 := by have := live_count HT.out.ok; rw [HT.out.len] at this; omega
              clear hlv hat7 hb7 HT
              go_wp2_with fail
              refine HRL.out.mono ?_
              rintro e w8 hlv
              obtain ⟨A8, cap8, rfl, hat8, hb8⟩ := live_at hlv
              have HT8 := Lib.hid (HT7.out.below hb8)
              have HIY := Lib.hid (Ints_yes A7 A8 cap7 cap8 st.live w8 (HAT7.out.below hb8) hat8 hll)
              clear hlv hat8 hb8 HT7 HRL HAT7
              go_wp2_with fail
              refine HIY.out.mono ?_
              rintro e w9 ⟨rfl, m9, rfl⟩
              have HT9 := Lib.hid (HT8.out.below (below_drewN (Below.refl _ _) m9))
              clear HT8 HIY
              go_wp2
              go_roundw
              case rel => exact ⟨j + 1, r', st, _, by omega, by go_num, HRR.out, HT9.out⟩
              case measure => simp [intOf]; omega
        have q1 : (o.do_ == 1) = false := by simp [d1]
        by_cases d2 : o.do_ = 2
        · rw [d2] at a0
          clear d0 d1 d2 q0 q1 HO
          cases hfd : s.find hz with
          | none =>
            have HGV := Lib.hid (Read_no bP bC bF k hz s w3 HI3.out.sl.is hfd)
            have HGR := Lib.hid (ref_Read_no r k hz s w3 HI3.out.rf HSM.out hfd)
            have HSA := Lib.hid (Same_yes none none 0 0 0 [] w3 (by omega) (by omega) (by omega) (words_nil _) (words_nil _))
            have HN := Lib.hid HI3.out.next
            clear hfd HI3
            go_wp2_with fail
            refine HGV.out.mono ?_
            rintro e w4 ⟨rfl, rfl⟩
            go_wp2_with fail
            refine HGR.out.mono ?_
            rintro e w4 ⟨rfl, rfl⟩
            go_wp2_with fail
            refine HSA.out.mono ?_
            rintro e w5 ⟨rfl, hb5⟩
            have HT := Lib.hid (HN.out.below hb5)
            clear hb5 HN HGV HGR HSA
            as_aux_lemma =>
              go_wp2_with fail
              refine (Free_any bP bC bF k s _ HT.out.sl.is).mono ?_
              rintro e w6 ⟨rfl, rfl⟩
              go_wp2_with fail
              refine (ref_Free' r.bR r rfl k s _ HT.out.rf).mono ?_
              rintro e w6 ⟨rfl, rfl⟩
              go_wp2_with fail
              refine (Live_any bP bC bF k s _ HT.out.sl.is).mono ?_
              rintro e w7 hlv
              obtain ⟨A7, cap7, rfl, hat7, hb7⟩ := live_at hlv
              have HT7 := Lib.hid (HT.out.below hb7)
              have HAT7 := Lib.hid hat7
              have HRL := Lib.hid (ref_Live' r.bR r rfl k s w7 HT7.out.rf)
              have hll : s.live.length ≤ 1000 := by have := live_count HT.out.ok; rw [HT.out.len] at this; omega
              clear hlv hat7 hb7 HT
              go_wp2_with fail
              refine HRL.out.mono ?_
              rintro e w8 hlv
              obtain ⟨A8, cap8, rfl, hat8, hb8⟩ := live_at hlv
              have HT8 := Lib.hid (HT7.out.below hb8)
              have HIY := Lib.hid (Ints_yes A7 A8 cap7 cap8 s.live w8 (HAT7.out.below hb8) hat8 hll)
              clear hlv hat8 hb8 HT7 HRL HAT7
              go_wp2_with fail
              refine HIY.out.mono ?_
              rintro e w9 ⟨rfl, m9, rfl⟩
              have HT9 := Lib.hid (HT8.out.below (below_drewN (Below.refl _ _) m9))
              clear HT8 HIY
              go_wp2
              go_roundw
              case rel => exact ⟨j + 1, r, s, _, by omega, by go_num, rfl, HT9.out⟩
              case measure => simp [intOf]; omega
          | some i =>
            obtain ⟨c, hc⟩ : ∃ c, s.cells[i]? = some c := by obtain ⟨m, c, _, _, _, hc, ht, _⟩ := Sl.find_some hfd; exact ⟨c, hc⟩
            have HHC := Lib.hid hc
            have HFD := Lib.hid hfd
            have HRD := Lib.hid (Read_yes bP bC bF k i hz s c w3 HI3.out.sl.is hfd hc)
            have HCW := Lib.hid (HI3.out.sl.is.ws c (List.mem_of_getElem? hc)).2.1
            clear hc hfd
            go_wp2_with fail
            refine HRD.out.mono ?_
            rintro e w4 hrd
            obtain ⟨v4, rfl, hwas4, hb4⟩ := WasAt.of_read hrd (Nat.le_refl _)
            have HI4 := Lib.hid (HI3.out.below hb4)
            have HWS4 := Lib.hid hwas4
            have HRR2 := Lib.hid (ref_Read r k i hz s c w4 HI4.out.rf HFD.out HHC.out)
            clear hrd hwas4 hb4 HRD
            go_wp2_with fail
            refine HRR2.out.mono ?_
            rintro e w5 hrd
            obtain ⟨v5, rfl, hwas5, hb5⟩ := WasAt.of_read hrd (Nat.le_refl _)
            have hwas4 := HWS4.out.below hb5
            obtain ⟨A4, cap4, rfl, hc4, hw4⟩ := hwas4.words
            obtain ⟨A5, cap5, rfl, hc5, hw5⟩ := hwas5.words
            have HSA := Lib.hid (Same_yes A4 A5 c.ws.length cap4 cap5 c.ws w5 (by rw [HCW.out]; omega) hc4 hc5 hw4 hw5)
            have HI5 := Lib.hid (HI4.out.below hb5)
            clear hrd hwas5 hb5 hwas4 hw4 hw5 hc4 hc5 HRR2 HWS4 HI4 HI3
            go_wp2_with fail
            refine HSA.out.mono ?_
            rintro e w6 ⟨rfl, hb6⟩
            have HT := Lib.hid (HI5.out.below hb6).next
            clear hb6 HI5 HSA
            as_aux_lemma =>
              go_wp2_with fail
              refine (Free_any bP bC bF k s _ HT.out.sl.is).mono ?_
              rintro e w6 ⟨rfl, rfl⟩
              go_wp2_with fail
              refine (ref_Free' r.bR r rfl k s _ HT.out.rf).mono ?_
              rintro e w6 ⟨rfl, rfl⟩
              go_wp2_with fail
              refine (Live_any bP bC bF k s _ HT.out.sl.is).mono ?_
              rintro e w7 hlv
              obtain ⟨A7, cap7, rfl, hat7, hb7⟩ := live_at hlv
              have HT7 := Lib.hid (HT.out.below hb7)
              have HAT7 := Lib.hid hat7
              have HRL := Lib.hid (ref_Live' r.bR r rfl k s w7 HT7.out.rf)
              have hll : s.live.length ≤ 1000 := by have := live_count HT.out.ok; rw [HT.out.len] at this; omega
              clear hlv hat7 hb7 HT
              go_wp2_with fail
              refine HRL.out.mono ?_
              rintro e w8 hlv
              obtain ⟨A8, cap8, rfl, hat8, hb8⟩ := live_at hlv
              have HT8 := Lib.hid (HT7.out.below hb8)
              have HIY := Lib.hid (Ints_yes A7 A8 cap7 cap8 s.live w8 (HAT7.out.below hb8) hat8 hll)
              clear hlv hat8 hb8 HT7 HRL HAT7
              go_wp2_with fail
              refine HIY.out.mono ?_
              rintro e w9 ⟨rfl, m9, rfl⟩
              have HT9 := Lib.hid (HT8.out.below (below_drewN (Below.refl _ _) m9))
              clear HT8 HIY
              go_wp2
              go_roundw
              case rel => exact ⟨j + 1, r, s, _, by omega, by go_num, rfl, HT9.out⟩
              case measure => simp [intOf]; omega
        have q2 : (o.do_ == 2) = false := by simp [d2]
        by_cases d3 : o.do_ = 3
        · rw [d3] at a0
          clear d0 d1 d2 d3 q0 q1 q2
          have HID := Lib.hid (HI3.out.below (Below.refl _ _).drew)
          cases hfd : s.find hz with
          | none =>
            have HGV := Lib.hid (Write_no bP bC bF k hz o.A o.len o.cap s w3.drew HID.out.sl.is hfd)
            have HGR := Lib.hid (ref_Write_no r k hz o.A o.len o.cap s w3.drew HID.out.rf HSM.out hfd)
            have HT := Lib.hid HID.out.next
            clear hfd HI3 HID
            go_wp2_with fail
            go_region_held3 (fun w' => w'.cell? ⟨b, off + j * 4 + 3, none⟩ = some (.slice o.A o.len o.cap)) (first | exact a3 | go_keep) (first | (go_at_call 21; refine HGV.out.mono ?_; rintro e w4 ⟨rfl, rfl⟩) | (go_at_call 22; refine HGR.out.mono ?_; rintro e w4 ⟨rfl, rfl⟩))
            as_aux_lemma =>
              go_wp2_with fail
              refine (Free_any bP bC bF k s _ HT.out.sl.is).mono ?_
              rintro e w6 ⟨rfl, rfl⟩
              go_wp2_with fail
              refine (ref_Free' r.bR r rfl k s _ HT.out.rf).mono ?_
              rintro e w6 ⟨rfl, rfl⟩
              go_wp2_with fail
              refine (Live_any bP bC bF k s _ HT.out.sl.is).mono ?_
              rintro e w7 hlv
              obtain ⟨A7, cap7, rfl, hat7, hb7⟩ := live_at hlv
              have HT7 := Lib.hid (HT.out.below hb7)
              have HAT7 := Lib.hid hat7
              have HRL := Lib.hid (ref_Live' r.bR r rfl k s w7 HT7.out.rf)
              have hll : s.live.length ≤ 1000 := by have := live_count HT.out.ok; rw [HT.out.len] at this; omega
              clear hlv hat7 hb7 HT
              go_wp2_with fail
              refine HRL.out.mono ?_
              rintro e w8 hlv
              obtain ⟨A8, cap8, rfl, hat8, hb8⟩ := live_at hlv
              have HT8 := Lib.hid (HT7.out.below hb8)
              have HIY := Lib.hid (Ints_yes A7 A8 cap7 cap8 s.live w8 (HAT7.out.below hb8) hat8 hll)
              clear hlv hat8 hb8 HT7 HRL HAT7
              go_wp2_with fail
              refine HIY.out.mono ?_
              rintro e w9 ⟨rfl, m9, rfl⟩
              have HT9 := Lib.hid (HT8.out.below (below_drewN (Below.refl _ _) m9))
              clear HT8 HIY
              go_wp2
              go_roundw
              case rel => exact ⟨j + 1, r, s, _, by omega, by go_num, rfl, HT9.out⟩
              case measure => simp [intOf]; omega
          | some i =>
            by_cases hok : o.len = k
            · obtain ⟨c, hc⟩ : ∃ c, s.cells[i]? = some c := by obtain ⟨m, c, _, _, _, hc, ht, _⟩ := Sl.find_some hfd; exact ⟨c, hc⟩
              have HHC := Lib.hid hc
              have HFD := Lib.hid hfd
              have hwd := HWD.out.below HID.out.lo
              rw [hok] at hwd a3
              have HW3 := Lib.hid hwd
              have HO3 := Lib.hid (show W.cell? ⟨b, off + j * 4 + 3, none⟩ = some (.slice o.A k o.cap) by have := HO.out.c3; rw [hok] at this; exact this)
              have HWD2 := Lib.hid (fun (u u' : World) (hu : Below W.heap.size W u) (hk : Kept FT u u') => show Words u' o.A k ns from by
                have q := HWD.out.below (hu.trans (hk.below hu.size (fun x hx hf => by have := HLO.out x hf; omega)))
                rw [hok] at q
                exact q)
              have HLK := Lib.hid (fun (u u' : World) (hu : Below W.heap.size W u) (hk : Kept FT u u') => show Below W.heap.size W u' from hu.trans (hk.below hu.size (fun x hx hf => by have := HLO.out x hf; omega)))
              obtain ⟨st, hst⟩ : ∃ st, s.put i { c with ws := ns } s.free = st := ⟨_, rfl⟩
              have HC1 := Lib.hid (Write_in FT bP bC bF k i hz o.A o.cap ns s c w3.drew HID.out.sl hfd hc hwd)
              have HOK := Lib.hid ((HID.out.ok.write (ns := ns) hc).mono (Nat.le_succ j))
              have HLN := Lib.hid (show (s.put i { c with ws := ns } s.free).cells.length = n by rw [put_len]; exact HID.out.len)
              rw [hst] at HC1 HOK HLN
              have HST := Lib.hid hst
              clear hc hfd hwd hok hst HI3
              go_wp2_with fail
              go_region_held3 (fun w' => w'.cell? ⟨b, off + j * 4 + 3, none⟩ = some (.slice o.A k o.cap)) (first | exact a3 | exact a4 | exact a5 | go_keep) (first | (go_at_call 21; refine HC1.out.mono ?_; rintro e w4 ⟨rfl, hS, hK⟩; have HC2 := Lib.hid (show Calls Try.prog 22 #[.pointer (some ⟨r.bR, 0, none⟩), .int .i64 hz, .slice o.A k o.cap] w4 (RefTells r k st (.int .i64 0) w4) by rw [← HST.out]; exact ref_Write r k i hz o.A o.cap ns s c w4 (HID.out.rf1 hK) HFD.out HHC.out (HWD2.out _ _ HID.out.lo hK)); have HS4 := Lib.hid hS; have HK4 := Lib.hid hK; have a4 := ((HLK.out _ _ HID.out.lo hK).cell (p := ⟨b, off + j * 4 + 3, none⟩) hb).trans HO3.out; clear hS hK HC1) | (go_at_call 22; refine HC2.out.mono ?_; rintro e w5 ⟨r', hr', rfl, hR, hK2, hrr⟩; have HRR := Lib.hid hr'; have HT := Lib.hid (HID.out.call HLO.out HS4.out HK4.out hR hK2 hrr HOK.out HLN.out); have a5 := (HT.out.lo.cell (p := ⟨b, off + j * 4 + 3, none⟩) hb).trans HO3.out; clear hR hK2 hrr hr' HC2 HS4 HK4))
              as_aux_lemma =>
                go_wp2_with fail
                refine (Free_any bP bC bF k st _ HT.out.sl.is).mono ?_
                rintro e w6 ⟨rfl, rfl⟩
                go_wp2_with fail
                refine (ref_Free' r.bR r' HRR.out k st _ HT.out.rf).mono ?_
                rintro e w6 ⟨rfl, rfl⟩
                go_wp2_with fail
                refine (Live_any bP bC bF k st _ HT.out.sl.is).mono ?_
                rintro e w7 hlv
                obtain ⟨A7, cap7, rfl, hat7, hb7⟩ := live_at hlv
                have HT7 := Lib.hid (HT.out.below hb7)
                have HAT7 := Lib.hid hat7
                have HRL := Lib.hid (ref_Live' r.bR r' HRR.out k st w7 HT7.out.rf)
                have hll : st.live.length ≤ 1000 := by have := live_count HT.out.ok; rw [HT.out.len] at this; omega
                clear hlv hat7 hb7 HT
                go_wp2_with fail
                refine HRL.out.mono ?_
                rintro e w8 hlv
                obtain ⟨A8, cap8, rfl, hat8, hb8⟩ := live_at hlv
                have HT8 := Lib.hid (HT7.out.below hb8)
                have HIY := Lib.hid (Ints_yes A7 A8 cap7 cap8 st.live w8 (HAT7.out.below hb8) hat8 hll)
                clear hlv hat8 hb8 HT7 HRL HAT7
                go_wp2_with fail
                refine HIY.out.mono ?_
                rintro e w9 ⟨rfl, m9, rfl⟩
                have HT9 := Lib.hid (HT8.out.below (below_drewN (Below.refl _ _) m9))
                clear HT8 HIY
                go_wp2
                go_roundw
                case rel => exact ⟨j + 1, r', st, _, by omega, by go_num, HRR.out, HT9.out⟩
                case measure => simp [intOf]; omega
            · have HGV := Lib.hid (Write_len bP bC bF k i hz o.A o.len o.cap s w3.drew HID.out.sl.is hfd hok)
              have HGR := Lib.hid (ref_Write_len r k i hz o.A o.len o.cap s w3.drew HID.out.rf hfd hok)
              have HT := Lib.hid HID.out.next
              clear hfd HI3 hok HID
              go_wp2_with fail
              go_region_held3 (fun w' => w'.cell? ⟨b, off + j * 4 + 3, none⟩ = some (.slice o.A o.len o.cap)) (first | exact a3 | go_keep) (first | (go_at_call 21; refine HGV.out.mono ?_; rintro e w4 ⟨rfl, rfl⟩) | (go_at_call 22; refine HGR.out.mono ?_; rintro e w4 ⟨rfl, rfl⟩))
              as_aux_lemma =>
                go_wp2_with fail
                refine (Free_any bP bC bF k s _ HT.out.sl.is).mono ?_
                rintro e w6 ⟨rfl, rfl⟩
                go_wp2_with fail
                refine (ref_Free' r.bR r rfl k s _ HT.out.rf).mono ?_
                rintro e w6 ⟨rfl, rfl⟩
                go_wp2_with fail
                refine (Live_any bP bC bF k s _ HT.out.sl.is).mono ?_
                rintro e w7 hlv
                obtain ⟨A7, cap7, rfl, hat7, hb7⟩ := live_at hlv
                have HT7 := Lib.hid (HT.out.below hb7)
                have HAT7 := Lib.hid hat7
                have HRL := Lib.hid (ref_Live' r.bR r rfl k s w7 HT7.out.rf)
                have hll : s.live.length ≤ 1000 := by have := live_count HT.out.ok; rw [HT.out.len] at this; omega
                clear hlv hat7 hb7 HT
                go_wp2_with fail
                refine HRL.out.mono ?_
                rintro e w8 hlv
                obtain ⟨A8, cap8, rfl, hat8, hb8⟩ := live_at hlv
                have HT8 := Lib.hid (HT7.out.below hb8)
                have HIY := Lib.hid (Ints_yes A7 A8 cap7 cap8 s.live w8 (HAT7.out.below hb8) hat8 hll)
                clear hlv hat8 hb8 HT7 HRL HAT7
                go_wp2_with fail
                refine HIY.out.mono ?_
                rintro e w9 ⟨rfl, m9, rfl⟩
                have HT9 := Lib.hid (HT8.out.below (below_drewN (Below.refl _ _) m9))
                clear HT8 HIY
                go_wp2
                go_roundw
                case rel => exact ⟨j + 1, r, s, _, by omega, by go_num, rfl, HT9.out⟩
                case measure => simp [intOf]; omega
        have q3 : (o.do_ == 3) = false := by simp [d3]
        clear d0 d1 d2 d3
        have HT := Lib.hid HI3.out.next
        clear HI3
        as_aux_lemma =>
          go_wp2_with fail
          refine (Free_any bP bC bF k s _ HT.out.sl.is).mono ?_
          rintro e w6 ⟨rfl, rfl⟩
          go_wp2_with fail
          refine (ref_Free' r.bR r rfl k s _ HT.out.rf).mono ?_
          rintro e w6 ⟨rfl, rfl⟩
          go_wp2_with fail
          refine (Live_any bP bC bF k s _ HT.out.sl.is).mono ?_
          rintro e w7 hlv
          obtain ⟨A7, cap7, rfl, hat7, hb7⟩ := live_at hlv
          have HT7 := Lib.hid (HT.out.below hb7)
          have HAT7 := Lib.hid hat7
          have HRL := Lib.hid (ref_Live' r.bR r rfl k s w7 HT7.out.rf)
          have hll : s.live.length ≤ 1000 := by have := live_count HT.out.ok; rw [HT.out.len] at this; omega
          clear hlv hat7 hb7 HT
          go_wp2_with fail
          refine HRL.out.mono ?_
          rintro e w8 hlv
          obtain ⟨A8, cap8, rfl, hat8, hb8⟩ := live_at hlv
          have HT8 := Lib.hid (HT7.out.below hb8)
          have HIY := Lib.hid (Ints_yes A7 A8 cap7 cap8 s.live w8 (HAT7.out.below hb8) hat8 hll)
          clear hlv hat8 hb8 HT7 HRL HAT7
          go_wp2_with fail
          refine HIY.out.mono ?_
          rintro e w9 ⟨rfl, m9, rfl⟩
          have HT9 := Lib.hid (HT8.out.below (below_drewN (Below.refl _ _) m9))
          clear HT8 HIY
          go_wp2
          go_roundw
          case rel => exact ⟨j + 1, r, s, _, by omega, by go_num, rfl, HT9.out⟩
          case measure => simp [intOf]; omega
      · go_wp2_with fail
        refine (live_any _).mono ?_
        rintro e w6 ⟨rfl, hb⟩
        have HB8 := Lib.hid (HI.out.lo.trans (hb.mono HI.out.lo.size))
        clear hb
        go_wp2
        go_ret
        exact ⟨rfl, HB8.out⟩
end Go.Proofs.Ytbmapjbjpgoibaa.slabScripts
