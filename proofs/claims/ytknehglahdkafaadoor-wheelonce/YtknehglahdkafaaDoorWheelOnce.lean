/- For all lists of calls the law WheelOnce returns true: each id is in one row at most, and going from one row to the next one by Next all ids are met, once each (of at most 100 calls, else only the document's examples are asked). -/
import Derived.Test.YtknehglahdkafaaDoorWheelOnce1
import Derived.Test.YtknehglahdkafaaDoorRows
import Derived.Deep.RegionHeld3
namespace Go.Proofs.YtknehglahdkafaaDoor.wheelOnce
open Go.ChangeShapes Go.WideShapes Go.ChangeAt Go.RowKit
set_option linter.unusedVariables false

/-- Between two rounds of the second loop. -/
structure OInv (W w : World) (bP bM : Nat) (R : Nat → List Nat) (t : Nat) (v5 v6 v7 : Value) : Prop where
  wh : Wh w bP bM R
  mm : ∃ m, MaskTo R t m ∧ v5 = .int .u64 (m : Int)
  met : Own1 W.heap.size 3 w v6 (idsV (cat R t))
  ne : ∀ b, v6.ownBlock = some b → b ≠ bP ∧ b ≠ bM
  last : ∃ l : Int, l < t ∧ v7 = .int .i64 l
  lo : Below W.heap.size W w
set_option maxRecDepth 100000 in
set_option maxHeartbeats 4000000 in
theorem main (A : Option Addr) (len cap : Nat) {W : World} (hops : IsOps W A len cap) (ht : TabW W) :
    Calls Tryd.prog 4 #[.slice A len cap] W fun e w' => e = .returned (.bool true) ∧ Below W.heap.size W w' := by
  have hlm : len ≤ 9223372036854775807 := by have := hops.2.1; have := hops.1; unfold maxLen at *; omega
  have hlc := hops.1
  have HOPS := Lib.hid hops
  have HT := Lib.hid ht
  clear hops ht
  go_enter Tryd.func4, Tryd.ntmps4
  go_wp2_with fail
  refine (New_T W).mono ?_
  rintro e w1 ⟨bP, bM, rfl, hW, hB, h1, h2⟩
  have HW := Lib.hid hW
  have HB := Lib.hid hB
  have HBK := Lib.hid (fun w' w'' (h : Below W.heap.size W w') (k : Kept (two bP bM) w' w'') => h.trans (k.below (B := W.heap.size) h.size (fun i hi hf => by rcases hf with rfl | rfl <;> omega)))
  have HGE := Lib.hid (And.intro h1 h2)
  clear hW hB h1 h2
  by_cases h100 : 100 < len
  · go_wp2_with fail
    refine (live_any _ (HT.out.below HB.out)).mono ?_
    rintro e w6 ⟨rfl, hb⟩
    have HB8 := Lib.hid (HB.out.trans (hb.mono HB.out.size))
    clear hb
    go_wp2
    go_ret
    exact ⟨rfl, HB8.out⟩
  · have t100 : decide ((100 : Int) < (len : Int)) = false := by simp; omega
    go_wp2_with fail
    go_loopw [4] (fun i wr => ∃ (j : Nat) (R : Nat → List Nat), j ≤ len ∧ i = .int .i64 (j : Int) ∧ Wh wr bP bM R ∧ tot R 64 ≤ j ∧ Below W.heap.size W wr) (fun i _ => len - (intOf i).toNat)
    case atStart => exact ⟨0, _, Nat.zero_le _, rfl, HW.out, by decide +kernel, HB.out⟩
    case round =>
      obtain ⟨j, R, hj, rfl, hI, hn, hL⟩ := hrel
      have HI := Lib.hid hI
      have HL := Lib.hid hL
      have HN := Lib.hid hn
      clear hI hL hn HW HB
      by_cases hlt : j < len
      · obtain ⟨b, off, rfl, hb, hall⟩ := HOPS.out.2.2 (by omega)
        obtain ⟨d, sl, k, ho⟩ := hall j hlt
        clear hall
        have c0 := (HL.out.cell (p := ⟨b, off + j * 3, none⟩) hb).trans ho.c0
        have c1 := (HL.out.cell (p := ⟨b, off + j * 3 + 1, none⟩) hb).trans ho.c1
        have c2 := (HL.out.cell (p := ⟨b, off + j * 3 + 2, none⟩) hb).trans ho.c2
        have HO := Lib.hid ho
        clear ho
        by_cases d0 : d = 0
        · rw [d0] at c0
          clear d0
          have HC := Lib.hid (Add_W bP bM R wr.drew (HI.out.below (Below.refl _ _).drew) sl k (by have := HN.out; omega))
          go_wp2_with fail
          go_region_held3 (fun w' => w'.cell? ⟨b, off + j * 3 + 1, none⟩ = some (.int .i64 sl) ∧ w'.cell? ⟨b, off + j * 3 + 2, none⟩ = some (.int .i64 k)) (first | exact ⟨c1, c2⟩ | exact ⟨x1, x2⟩ | go_keep) (first | (go_at_call 15; refine HC.out.mono ?_; rintro e w2 ⟨v2, R2, rfl, hW, hK, hT⟩; have HW2 := Lib.hid hW; have HT2 := Lib.hid hT; have HL2 := Lib.hid (HBK.out _ _ HL.out.drew hK); have x1 := (HL2.out.cell (p := ⟨b, off + j * 3 + 1, none⟩) hb).trans HO.out.c1; have x2 := (HL2.out.cell (p := ⟨b, off + j * 3 + 2, none⟩) hb).trans HO.out.c2; clear hW hK hT HC))
          go_wp2
          go_roundw
          case rel => exact ⟨j + 1, R2, by omega, by go_num, HW2.out, by have := HT2.out; have := HN.out; omega, HL2.out⟩
          case measure => simp [intOf]; omega
        have q0 : (d == 0) = false := by simp [d0]
        by_cases d1 : d = 1
        · rw [d1] at c0
          clear d0 d1 q0
          have HC := Lib.hid (Drop_W bP bM R wr HI.out k HO.out.w2 (by have := HN.out; omega))
          go_wp2_with fail
          refine HC.out.mono ?_
          rintro e w2 ⟨r2, R2, rfl, hW, hK, hT⟩
          have HW2 := Lib.hid hW
          have HT2 := Lib.hid hT
          have HL2 := Lib.hid (HBK.out _ _ HL.out hK)
          clear hW hK hT HC
          go_wp2
          go_roundw
          case rel => exact ⟨j + 1, R2, by omega, by go_num, HW2.out, by have := HT2.out; have := HN.out; omega, HL2.out⟩
          case measure => simp [intOf]; omega
        have q1 : (d == 1) = false := by simp [d1]
        by_cases d4 : d = 4
        · rw [d4] at c0
          clear d0 d1 d4 q0 q1
          have HC := Lib.hid (Empty_W bP bM R wr HI.out sl (by have := HN.out; omega))
          go_wp2_with fail
          refine HC.out.mono ?_
          rintro e w2 ⟨v2, R2, rfl, hW, hK, hT⟩
          have HW2 := Lib.hid hW
          have HT2 := Lib.hid hT
          have HL2 := Lib.hid (HBK.out _ _ HL.out hK)
          clear hW hK hT HC
          go_wp2
          go_roundw
          case rel => exact ⟨j + 1, R2, by omega, by go_num, HW2.out, by have := HT2.out; have := HN.out; omega, HL2.out⟩
          case measure => simp [intOf]; omega
        have q4 : (d == 4) = false := by simp [d4]
        clear d0 d1 d4
        go_wp2
        go_roundw
        case rel => exact ⟨j + 1, R, by omega, by go_num, HI.out, by have := HN.out; omega, HL.out⟩
        case measure => simp [intOf]; omega
      · have hn : tot R 64 ≤ 100 := by have := HN.out; omega
        have HD0 := Lib.hid (show OInv W wr bP bM R 0 (.int .u64 0) (.slice none 0 0) (.int .i64 (-1)) from ⟨HI.out, ⟨0, maskTo_zero R, rfl⟩, Own1.nil _ _ _, (fun b hb => by simp [Value.ownBlock] at hb), ⟨-1, by omega, rfl⟩, HL.out⟩)
        obtain ⟨m, hm1, hm2, hm3⟩ := Next_T bP bM R wr HI.out 0 (HT.out.below HL.out) (by unfold I64; omega)
        rw [show (0 : Int).toNat = 0 from rfl] at hm3
        have HNX := Lib.hid hm3
        have HNI := Lib.hid (next_at hm2 0)
        have HAP := Lib.hid HI.out.ap
        have HND := Lib.hid HI.out.nd
        have HLE := Lib.hid HI.out.le
        clear hm1 hm2 hm3 HI HL HN
        generalize nextN [m] 0 = z at *
        go_wp2_with fail
        refine HNX.out.mono ?_
        rintro e w2 ⟨rfl, hb⟩
        have HD1 := Lib.hid (show OInv W w2 bP bM R 0 (.int .u64 0) (.slice none 0 0) (.int .i64 (-1)) from ⟨HD0.out.wh.below hb, HD0.out.mm, Own1.nil _ _ _, HD0.out.ne, HD0.out.last, HD0.out.lo.trans (hb.mono HD0.out.lo.size)⟩)
        clear hb HD0 HNX
        go_wp2_with fail
        go_loopw [5, 6, 7, 8, 9] (fun v5 v6 v7 v8 v9 wx => ∃ t : Nat, t ≤ 64 ∧ OInv W wx bP bM R t v5 v6 v7 ∧ NextAt R t v8 v9) (fun _ _ _ v8 v9 _ => left89 v8 v9)
        case atStart => exact ⟨0, by omega, HD1.out, HNI.out⟩
        case round =>
          clear HD1 HNI
          obtain ⟨t, ht64, hD, hN⟩ := hrel
          have HD := Lib.hid hD
          obtain ⟨m, hmt, rfl⟩ := hD.mm
          obtain ⟨lst, hlst, rfl⟩ := hD.last
          rcases hN with ⟨i, hti, hi, hne, hfirst, rfl, rfl⟩ | ⟨hall, rfl, rfl⟩
          · have HNE := Lib.hid hne
            have HFI := Lib.hid hfirst
            have HMT := Lib.hid hmt
            have HRO := Lib.hid (Row_T bP bM R wr hD.wh i hi (by omega))
            have hrl : (R i).length ≤ 100 := Nat.le_trans (row_le R i 64 hi) hn
            have hr0 : 0 < (R i).length := List.length_pos_iff.2 hne
            have hor := or_mask m i hmt.1 hi
            clear hne hfirst hD hmt
            go_wp2_with fail
            refine HRO.out.mono ?_
            rintro e w3 ⟨v3, rfl, hO, hb⟩
            obtain ⟨A3, cap3, rfl, hI3⟩ := hO.ints
            have HI3 := Lib.hid hI3
            have HW3 := Lib.hid (HD.out.wh.below hb)
            have HL3 := Lib.hid (HD.out.lo.trans (hb.mono HD.out.lo.size))
            have HM3 := Lib.hid (HD.out.met.kept (F := fun _ => False) (Kept.of_below hb) (fun _ _ => id))
            rw [← cat_skip hti HFI.out] at HM3
            have HNE3 := Lib.hid HD.out.ne
            have HMS := Lib.hid (maskTo_step HMT.out hti hi HFI.out HNE.out)
            have HOB := Lib.hid (show ∀ a, A3 = some a → wr.heap.size ≤ a.block from fun a e => hO.ge (b := a.block) (by rw [e]; rfl))
            have HML := Lib.hid (show ∀ b, u6.ownBlock = some b → b < wr.heap.size from fun b hb => HD.out.met.lt hb)
            have c3 := hI3.1
            rw [List.length_map] at c3
            clear hO hb HRO HD hI3
            generalize m ||| 2 ^ i = m' at *
            obtain ⟨l, hl⟩ : ∃ l, R i = l := ⟨_, rfl⟩
            have HLI := Lib.hid hl
            rw [hl] at hrl hr0 HI3 c3 ⊢
            clear hl
            obtain ⟨ln, hln⟩ : ∃ ln, l.length = ln := ⟨_, rfl⟩
            have HLN := Lib.hid hln
            rw [hln] at hrl hr0 c3 ⊢
            have t0 : ((ln : Int) == 0) = false := by simp; omega
            have t1 : decide ((i : Int) ≤ lst) = false := by simp; omega
            clear hln
            go_wp2_with fail
            go_loopw [6, 11] (fun v6 i11 wx => ∃ q : Nat, q ≤ ln ∧ i11 = .int .i64 (q : Int) ∧ Own1 W.heap.size 3 wx v6 (idsV (cat R i ++ l.take q)) ∧ (∀ b, v6.ownBlock = some b → b ≠ bP ∧ b ≠ bM ∧ ∀ a, A3 = some a → a.block ≠ b) ∧ Wh wx bP bM R ∧ Below W.heap.size W wx ∧ IntsAt wx A3 cap3 (l.map fun (x : Nat) => (x : Int)) ∧ w3.heap.size ≤ wx.heap.size) (fun _ i11 _ => ln - (intOf i11).toNat)
            case atStart => exact ⟨0, Nat.zero_le _, rfl, by rw [List.take_zero, List.append_nil]; exact HM3.out, fun b hb => ⟨(HNE3.out b hb).1, (HNE3.out b hb).2, fun a e q => by have := HOB.out a e; have := HML.out b hb; omega⟩, HW3.out, HL3.out, HI3.out, Nat.le_refl _⟩
            case round =>
              clear HM3 HW3 HL3 HI3 HNE3 HML
              obtain ⟨q, hq, rfl, hM, hNE, hW, hL, hI, hS⟩ := hrel
              have HM := Lib.hid hM
              have HNEQ := Lib.hid hNE
              have HW := Lib.hid hW
              have HL := Lib.hid hL
              have HI := Lib.hid hI
              clear hNE hW hL hI
              by_cases hql : q < ln
              · obtain ⟨x, hx⟩ : ∃ x, l[q]? = some x := ⟨_, List.getElem?_eq_getElem (by rw [HLN.out]; exact hql)⟩
                obtain ⟨g3, rfl, hcell⟩ := HI.out.2 (by rw [List.length_map, HLN.out]; omega)
                have d0 := hcell q (x : Int) (by rw [List.getElem?_map, hx]; rfl)
                have hg3 := block_lt_of_cell d0
                have HX := Lib.hid hx
                have HXM := Lib.hid (show x ∈ R i by rw [HLI.out]; exact List.mem_of_getElem? hx)
                have HCN := Lib.hid (cat_new (q := q) hi HAP.out (HND.out i hi) (by rw [HLI.out]; exact hx))
                rw [HLI.out] at HCN
                have HWH := Lib.hid (Where_yes bP bM R wr HW.out i x hi HXM.out)
                obtain ⟨M, hMl⟩ : ∃ M, (cat R i ++ l.take q).length = M := ⟨_, rfl⟩
                have HMB := Lib.hid (show M ≤ 300 by
                  have h1 := cat_len R i
                  have h2 := tot_mono R (a := i) (b := 64) (by omega)
                  have h3 := List.length_take_le q l
                  have h4 := HLN.out
                  rw [List.length_append] at hMl
                  omega)
                obtain ⟨A6, cap6, rfl, hI6⟩ := hM.ints
                have HI6 := Lib.hid hI6
                have c6 := hI6.1
                rw [List.length_map, hMl] at c6
                rw [hMl]
                rw [hMl] at HM HNEQ
                have HML2 := Lib.hid hMl
                clear hx hcell hM hI6 hMl
                go_wp2_with fail
                refine HWH.out.mono ?_
                rintro e w4 ⟨rfl, hb4⟩
                have d1 := (hb4.cell (p := ⟨g3, q, none⟩) hg3).trans d0
                have hg4 : g3 < w4.heap.size := Nat.lt_of_lt_of_le hg3 hb4.size
                have HW4 := Lib.hid (HW.out.below hb4)
                have HL4 := Lib.hid (HL.out.trans (hb4.mono HL.out.size))
                have HI4 := Lib.hid (HI.out.below hb4)
                have HM4 := Lib.hid (HM.out.kept (F := fun _ => False) (Kept.of_below hb4) (fun _ _ => id))
                have HI64 := Lib.hid (HI6.out.below hb4)
                have hS4 : w3.heap.size ≤ w4.heap.size := Nat.le_trans hS hb4.size
                have hM3 := HMB.out
                clear hb4 d0 HW HL HI HM HI6 HWH hS
                go_wp2_with fail
                go_loopw [14] (fun k wx => ∃ p : Nat, p ≤ M ∧ k = .int .i64 (p : Int) ∧ ∃ n, wx = w4.drewN n) (fun k _ => M - (intOf k).toNat)
                case atStart => exact ⟨0, Nat.zero_le _, rfl, 0, rfl⟩
                case round =>
                  obtain ⟨p, hp, rfl, n, rfl⟩ := hrel
                  by_cases hpl : p < M
                  · obtain ⟨y, hy⟩ : ∃ y, (cat R i ++ l.take q)[p]? = some y := ⟨_, List.getElem?_eq_getElem (by rw [HML2.out]; exact hpl)⟩
                    obtain ⟨g6, rfl, hcell6⟩ := HI64.out.2 (by rw [List.length_map, HML2.out]; omega)
                    have d6 := hcell6 p (y : Int) (by rw [List.getElem?_map, hy]; rfl)
                    have hyx := HCN.out y (List.mem_of_getElem? hy)
                    have t6 : ((y : Int) == (x : Int)) = false := by simp; omega
                    have t7 : (y == x) = false := by simp; exact hyx
                    clear hcell6 hy hyx
                    go_wp2_with fail
                    go_quiet (fail)
                    go_wp2
                    go_roundw
                    case rel => exact ⟨p + 1, by omega, by go_num, n + nq, rfl⟩
                    case measure => simp [intOf]; omega
                  · have HW5 := Lib.hid (show Wh (w4.drewN n) bP bM R from HW4.out.below ⟨rfl, rfl, rfl, Nat.le_refl _, fun _ _ => rfl⟩)
                    have HL5 := Lib.hid (show Below W.heap.size W (w4.drewN n) from HL4.out.trans ⟨rfl, rfl, rfl, Nat.le_refl _, fun _ _ => rfl⟩)
                    have HI5 := Lib.hid (show IntsAt (w4.drewN n) (some ⟨g3, 0, none⟩) cap3 (l.map fun (x : Nat) => (x : Int)) from HI4.out)
                    have HM5 := Lib.hid (show Own1 W.heap.size 3 (w4.drewN n) (.slice A6 M cap6) (idsV (cat R i ++ l.take q)) from HM4.out)
                    have d5 : (w4.drewN n).cell? ⟨g3, q, none⟩ = some (.int .i64 (x : Int)) := d1
                    have hg5 : g3 < (w4.drewN n).heap.size := hg4
                    have hS5 : w3.heap.size ≤ (w4.drewN n).heap.size := hS4
                    have HSZ := Lib.hid HL5.out.size
                    have HIL := Lib.hid (show (idsV (cat R i ++ l.take q)).length = M by rw [idsV_len]; exact HML2.out)
                    clear d1 HW4 HL4 HI4 HM4 HI64 hg4 hS4
                    generalize w4.drewN n = w5 at *
                    go_wp2_with (at_builtin; refine wpList_append_own1 w5 w5.heap.size rfl rfl _ _ 26 rfl 3 (.int .i64 0) 8 Tryd.underlying26 Tryd.infoInt rfl (by decide) _ (.int .i64 (x : Int)) (idsV (cat R i ++ l.take q)) M HIL.out rfl rfl rfl HM5.out HSZ.out (by omega) ?_)
                    intro g7 cap7 w7 ho hk hg hgl
                    have HM7 := Lib.hid (show Own1 W.heap.size 3 w7 (.slice (some ⟨g7, 0, none⟩) (M + 1) cap7) (idsV (cat R i ++ l.take (q + 1))) from by
                      have e : idsV (cat R i ++ l.take (q + 1)) = idsV (cat R i ++ l.take q) ++ [.int .i64 (x : Int)] := by
                        rw [List.take_add_one, HX.out]; simp [idsV]
                      rw [e]; exact ho)
                    have HW7 := Lib.hid (HW5.out.kept hk (fun e => (HNEQ.out _ e).1 rfl) (fun e => (HNEQ.out _ e).2.1 rfl))
                    have HL7 := Lib.hid (HL5.out.trans (hk.below HL5.out.size (fun b hb e => by have := HM5.out.ge e; omega)))
                    have HI7 := Lib.hid (HI5.out.kept hk (fun a e h => (HNEQ.out _ h).2.2 a e rfl))
                    have HN7 := Lib.hid (show ∀ b, (Value.slice (some ⟨g7, 0, none⟩) (M + 1) cap7).ownBlock = some b → b ≠ bP ∧ b ≠ bM ∧ ∀ a, some (⟨g3, 0, none⟩ : Addr) = some a → a.block ≠ b from fun b hb => by
                      have : b = g7 := by simpa [Value.ownBlock] using hb.symm
                      subst this
                      rcases hg with hg | hg
                      · exact HNEQ.out b hg
                      · have h1 := HW5.out.lt
                        exact ⟨by omega, by omega, fun a e => by cases e; show g3 ≠ b; omega⟩)
                    have hS7 : w3.heap.size ≤ w7.heap.size := Nat.le_trans hS5 hk.size
                    clear ho hk hg hgl d5 HW5 HL5 HI5 HM5
                    go_wp2
                    go_roundw
                    case rel => exact ⟨q + 1, by omega, by go_num, HM7.out, HN7.out, HW7.out, HL7.out, HI7.out, hS7⟩
                    case measure => simp [intOf]; omega
              · obtain rfl : q = ln := by omega
                have HDN := Lib.hid (show OInv W wr bP bM R (i + 1) (.int .u64 (m' : Int)) u6 (.int .i64 (i : Int)) from by
                  refine ⟨HW.out, ⟨m', HMS.out, rfl⟩, ?_, fun b hb => ⟨(HNEQ.out b hb).1, (HNEQ.out b hb).2.1⟩, ⟨i, by omega, rfl⟩, HL.out⟩
                  have e : cat R (i + 1) = cat R i ++ l.take q := by rw [cat, HLI.out, ← HLN.out, List.take_length]
                  rw [e]; exact HM.out)
                obtain ⟨m2, hm1, hm2, hm3⟩ := Next_T bP bM R wr HW.out ((i : Int) + 1) (HT.out.below HL.out) (by unfold I64; omega)
                rw [show ((i : Int) + 1).toNat = i + 1 by omega] at hm3
                have HNX := Lib.hid hm3
                have hnis := next_at hm2 (i + 1)
                have HMS2 := Lib.hid (next_left hnis hi)
                have HNI := Lib.hid hnis
                clear hm1 hm2 hm3 hnis HW HM HL HI hM hS
                generalize nextN [m2] (i + 1) = z2 at *
                go_wp2_with fail
                refine HNX.out.mono ?_
                rintro e w8 ⟨rfl, hb8⟩
                have HD8 := Lib.hid (show OInv W w8 bP bM R (i + 1) (.int .u64 (m' : Int)) u6 (.int .i64 (i : Int)) from ⟨HDN.out.wh.below hb8, HDN.out.mm, HDN.out.met.kept (F := fun _ => False) (Kept.of_below hb8) (fun _ _ => id), HDN.out.ne, HDN.out.last, HDN.out.lo.trans (hb8.mono HDN.out.lo.size)⟩)
                clear hb8 HDN HNX
                go_wp2
                go_roundw
                case rel => exact ⟨i + 1, by omega, HD8.out, HNI.out⟩
                case measure => show left89 _ _ < 64 - (intOf (.int .i64 (i : Int))).toNat; simpa [intOf] using HMS2.out
          · have hcat : (cat R t).length = tot R 64 := by
              rw [← cat_skip ht64 hall, cat_len]
            obtain ⟨A6, cap6, rfl, hI6⟩ := hD.met.ints
            rw [hcat]
            have HLN := Lib.hid (Len_T bP bM R wr hD.wh)
            obtain ⟨m2, hm1, hm2, hm3⟩ := Mask_T bP bM R wr hD.wh
            obtain rfl : m2 = m := mask_is hm1 hmt.1 hm2 (fun j hj => by
              rw [hmt.2 j hj]
              by_cases q : j < t
              · simp [q]
              · rw [hall j (by omega) hj]; simp)
            have HMK := Lib.hid hm3
            clear hm1 hm2 hm3 hall hcat hD hmt hI6
            generalize tot R 64 = N at *
            go_wp2_with fail
            refine HMK.out.mono ?_
            rintro e w3 ⟨rfl, rfl⟩
            go_wp2_with fail
            refine HLN.out.mono ?_
            rintro e w3 ⟨rfl, rfl⟩
            go_wp2_with fail
            refine (live_any _ (HT.out.below HD.out.lo)).mono ?_
            rintro e w6 ⟨rfl, hb⟩
            have HB8 := Lib.hid (HD.out.lo.trans (hb.mono HD.out.lo.size))
            clear hb
            go_wp2
            go_ret
            exact ⟨rfl, HB8.out⟩
theorem walk (A : Option Addr) (len cap : Nat) {W : World} (hops : IsOps W A len cap) (ht : TabW W) :
    Calls Tryd.prog 4 #[.slice A len cap] W fun e w' => e = .returned (.bool true) ∧ Below W.heap.size W w' := main A len cap hops ht

theorem own : ownKnob Tryd.prog.godebug = none := by kernel_rfl
theorem laidOut : laidOutB Tryd.prog = true := by kernel_rfl
theorem contract (H : Type) (enc : TypeId × Value → H) (W : World) (base : Nat) (args : Array Value) (ds gs : List (DataW H)) (before : List MemPlace)
    (hval : ∀ (j : Nat) t v, Tryd.f4.params[j]? = some t → args[j]? = some v → Value.okWide Tryd.prog W .any base t v)
    (hW : DataW.Whole enc Tryd.prog Tryd.f4.params.toList Rows.wheelOnceSpec.vars false W args.toList ds gs before) (hL : laidMetH Tryd.prog Rows.wheelOnceRow.laid W) :
    Calls Tryd.prog 4 args W fun e W' => ∃ v, e = .returned v ∧ Rows.wheelOnceSpec.post enc Tryd.prog Tryd.f4 false true false false W args v W' := by
  have hW' := hW
  obtain ⟨p, q, hA0, hV, rfl, hfz, hnd⟩ := hW
  have hA : DataW.TrodAll enc Tryd.prog W 0 (fun _ => true) true Tryd.f4.params.toList args.toList ds p := hA0
  rw [Tryd.params4] at hA hval
  obtain ⟨v0, vs0, d0, ds0, p0, q0, hargs, rfl, rfl, h0, r0⟩ := trodAll_cons hA
  obtain ⟨rfl, rfl, rfl⟩ := trodAll_nil r0
  obtain rfl : args = #[v0] := by cases args; simp_all
  obtain ⟨rfl, rfl⟩ := trodVars_none hV
  have k0 := h0
  have lt0 : ∀ x ∈ p0, x.block < W.heap.size := by obtain ⟨m, hm⟩ := k0; exact DataW.trod_lt m _ _ _ hm
  obtain ⟨a0, len0, cap0, rfl, w0⟩ := open_ops (hval 0 22 v0 rfl rfl) h0
  clear hA0
  refine (walk a0 len0 cap0 w0 (tabW_of hL)).mono fun e W' ⟨he, bel⟩ => ?_
  subst he
  exact ⟨_, rfl, _, _, _, [], _, [], hW', trodAll_mk1 (shut_bool Tryd.underlying4 _), (trodAll_cons_mk (Below.trod laidOut (by kernel_rfl) (of_decide_eq_true (by kernel_rfl)) k0 bel lt0) trodAll_mk0), rfl, bel.frame _, fun h => by cases h⟩

theorem laid_met (os : Os) : laidMet Tryd.prog Rows.wheelOnceRow.laid ((laidWorld os).forCall (fun _ _ => 0) ⟨#[], #[.slice none 0 0], []⟩).memory :=
  laidMet_of_run' 8 (by kernel_rfl) (by kernel_rfl)
theorem reads (os : Os) {H : Type} (enc : TypeId × Value → H) : ∃ places, DataW.whole enc Tryd.prog ((laidWorld os).forCall (fun _ _ => 0) ⟨#[], #[.slice none 0 0], []⟩).memory Tryd.f4.params.toList Rows.wheelOnceSpec.vars false (#[.slice none 0 0] : Array Value).toList 8 = some ([.nil], [], places) :=
  ⟨[], by kernel_rfl⟩

set_option maxRecDepth 100000 in
theorem lifted (os : Os) (started : os.Started) (H : Type) (enc : TypeId × Value → H) (F : Stop.Interp) :
    ReturnsInHanded {} Tryd.checked os 4 .any ((OpenSpec.ofChange Rows.wheelOnceSpec).preRow enc Tryd.prog Tryd.f4 Rows.wheelOnceRow.domain false Rows.wheelOnceRow.laid) (((OpenSpec.ofChange Rows.wheelOnceSpec).at F).post enc Tryd.prog Tryd.f4 false true false false) := by
  obtain ⟨places, hx⟩ := reads os enc
  refine returnsInHanded_of_row (C := Tryd.checked) (s := OpenSpec.ofChange Rows.wheelOnceSpec) own started (by kernel_rfl) Tryd.func4
    (witness_row_at (enc := enc) (C := Tryd.checked) false (laidWorld os) #[.slice none 0 0] rfl (by kernel_rfl) (by kernel_rfl) (by kernel_rfl)
      (OpenSpec.preRow_of_cond 8 hx (by kernel_rfl) (fun k hk => by cases hk) (by kernel_rfl) (laid_met os))) ?_
  intro W base args ds gs before hval hW _ _ _ hL _ _
  exact contract H enc W base args ds gs before hval hW hL

theorem said : Rows.WheelOnceSaid :=
  OpenClaim.holds_of_cond 4 Tryd.f4 rfl rfl rfl rfl rfl rfl rfl ⟨rfl, rfl, rfl, rfl, rfl⟩ rfl rfl rfl rfl rfl (by kernel_rfl) Tryd.func4 (by kernel_rfl)
    (of_decide_eq_true (by kernel_rfl)) (by unfold Func.isWrapper; first | (rw [if_pos (by decide +kernel)]; kernel_rfl) | (rw [if_neg (by decide +kernel)]; exact ⟨rfl, rfl⟩))
    (fun os started H enc _ F => by rw [OpenClaim.pre_eq_preRow]; exact lifted os started H enc F)
theorem plain (f : FuncId) (fn : Func) (hf : Tryd.pinned.checked.prog.funcNamed Rows.wheelOnceRow.func = some f) (hfn : Tryd.pinned.checked.prog.funcs[f]? = some fn) :
    false = Tryd.pinned.checked.prog.looks [] ∧ ∀ (j : Nat) t, fn.params[j]? = some t → Tryd.pinned.checked.prog.wantsStandIn t = false := by
  obtain rfl : f = 4 := Option.some.inj ((show Tryd.prog.funcNamed Rows.wheelOnceRow.func = some 4 by kernel_rfl).symm.trans hf) |>.symm
  obtain rfl : fn = Tryd.f4 := (Option.some.inj (Tryd.func4.symm.trans hfn)).symm
  refine ⟨by kernel_rfl, fun j t ht => ?_⟩
  rw [Tryd.params4] at ht
  have hm := Array.mem_of_getElem? ht
  simp only [List.mem_toArray, List.mem_cons, List.not_mem_nil, or_false] at hm
  rcases hm with rfl
  · exact (show Tryd.prog.wantsStandIn 22 = false by kernel_rfl)
theorem card : Rows.WheelOnceCardSaid :=
  Claim7.holds_tied_plain_at .later [] _ _ _ _ said (fun _ h => by cases h) (by kernel_rfl) (fun _ h => by cases h) wheelOnce_row_tie rfl ⟨rfl, rfl⟩ (by kernel_rfl) rfl plain (by kernel_rfl)
end Go.Proofs.YtknehglahdkafaaDoor.wheelOnce
namespace Go.Proofs.YtknehglahdkafaaDoor
theorem wheelOnce_proved : Rows.WheelOnceCardSaid := wheelOnce.card
end Go.Proofs.YtknehglahdkafaaDoor

