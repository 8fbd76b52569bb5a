/- For all numbers and lists of places the law SlabRow returns true: cells that are given back are taken again, the one that was given last first (of at most 64 places, else only the document's examples are asked). -/
import Derived.Test.YtdchoaihbjmpbabSlab9
import Derived.Test.YtdchoaihbjmpbabRows
namespace Go.Proofs.Ytdchoaihbjmpbab.slabRow
open Go.ChangeShapes Go.WideShapes Go.ChangeAt Go.RowKit
set_option linter.unusedVariables false

theorem wf_i {n : Int} (h : (Lit.int .i64 n).wf = true) : -9223372036854775808 ≤ n ∧ n < 9223372036854775808 := by
  have hx : -9223372036854775808 ≤ n ∧ n ≤ 9223372036854775807 := by simpa [Lit.wf, IntKind.min, IntKind.max, IntKind.signed, IntKind.bits] using h
  omega
/-- A slice of numbers that came in, cell by cell. -/
theorem cells_of {w : World} {A : Option Addr} {len cap : Nat} {zs : List Int} (h : IsInts .i64 w A len cap zs) :
    len ≤ cap ∧ len ≤ maxLen ∧ (0 < len → ∃ b off, A = some ⟨b, off, none⟩ ∧ b < w.heap.size ∧ ∀ i, i < len → ∃ z, w.cell? ⟨b, off + i, none⟩ = some (.int .i64 z) ∧ -9223372036854775808 ≤ z ∧ z < 9223372036854775808) := by
  rcases h with ⟨rfl, rfl, rfl, rfl⟩ | ⟨x, rfl, hl, hm, hz, hc, hw⟩
  · exact ⟨Nat.le_refl _, Nat.zero_le _, fun h => absurd h (by omega)⟩
  · refine ⟨hl, Nat.le_trans hl hm, fun h0 => ?_⟩
    obtain ⟨b, off, spot⟩ := x
    have h1 := hc 0 (by omega)
    have hspot : spot = none := by simpa [Addr.add] using World.cell?_spot h1
    subst hspot
    have e2 : ∀ i, (⟨b, off, none⟩ : Addr).add i = ⟨b, off + i, none⟩ := fun i => by unfold Addr.add; split <;> simp_all
    have hlt : b < w.heap.size := by
      have := block_lt_of_cell h1
      rw [e2] at this
      exact this
    refine ⟨b, off, rfl, hlt, fun i hi => ⟨zs.getD i 0, ?_, ?_⟩⟩
    · rw [← e2]; exact hc i (by omega)
    · have hi2 : i < zs.length := by omega
      rw [List.getD_eq_getElem?_getD, List.getElem?_eq_getElem hi2]
      exact wf_i (hw _ (List.getElem_mem hi2))

/-- What holds between two calls. -/
structure Inv (FT : Nat → Prop) (W w : World) (bP bC bF n t : Nat) (s : Sl) (G : List Nat) (m : Nat) : Prop where
  sl : SlabIn FT w bP bC bF 0 s
  row : RowSt s n t G m
  lo : Below W.heap.size W w
theorem int_map (G : List Nat) : (G.map fun (g : Nat) => (g : Int)).length = G.length := by simp

set_option maxRecDepth 100000 in
set_option maxHeartbeats 4000000 in
theorem main (n t : Nat) (A : Option Addr) (len cap : Nat) (zs : List Int) {W : World} (h1 : 1 ≤ n) (h2 : n ≤ 64) (ht : t ≤ n) (hl : len ≤ 64) (hw : IsInts .i64 W A len cap zs) :
    Calls Try.prog 8 #[.int .i64 n, .int .i64 t, .slice A len cap] W fun e w' => e = .returned (.bool true) ∧ Below W.heap.size W w' := by
  obtain ⟨hc, hm, hcell⟩ := cells_of hw
  have HCELL := Lib.hid hcell
  clear hw hcell hm
  have t1 : decide ((64 : Int) < (n : Int)) = false := by simp; omega
  have t2 : decide ((t : Int) < 0) = false := by simp
  have t3 : decide (n < t) = false := by simp; omega
  have t4 : decide ((64 : Int) < (len : Int)) = false := by simp; omega
  go_enter Try.func8, Try.ntmps8
  go_wp2_with fail
  refine (New_in n 0 W h1 h2 (by decide)).mono ?_
  rintro e w1 ⟨FT, bP, bC, bF, bs, rfl, hbl, hS, hB, hlo⟩
  have HV := Lib.hid (show Inv FT W w1 bP bC bF n 0 (newS n 0 bs) [] 0 from ⟨hS, RowSt.new n 0 bs hbl, hB⟩)
  have HBK := Lib.hid (fun w' w'' (h : Below W.heap.size W w') (q : Kept FT w' w'') => h.trans (q.below (B := W.heap.size) h.size (fun i hi hf => by have := hlo i hf; omega)))
  clear hS hB hlo hbl
  go_wp2_with fail
  go_loopw [9] (fun i wr => ∃ (j : Nat) (s : Sl), j ≤ t ∧ i = .int .i64 (j : Int) ∧ Inv FT W wr bP bC bF n j s [] 0) (fun i _ => t - (intOf i).toNat)
  case atStart => exact ⟨0, _, Nat.zero_le _, rfl, HV.out⟩
  case round =>
    obtain ⟨j, s, hj, rfl, hI⟩ := hrel
    have HIv := Lib.hid hI
    clear hI HV
    by_cases hlt : j < t
    · obtain ⟨c, q1, q2, q3, q4⟩ := HIv.out.row.take1 (by omega) (List.replicate 0 0)
      have HT := Lib.hid (Take_in FT bP bC bF 0 j s c (down n (j + 1)) (j : Int) wr HIv.out.sl q1 q3 (by rw [q2]; omega))
      have HQ := Lib.hid q4
      clear q1 q2 q3 q4
      go_wp2_with fail
      refine HT.out.mono ?_
      rintro e w2 ⟨rfl, hS, hK⟩
      have R := Lib.hid (show Inv FT W w2 bP bC bF n (j + 1) _ [] 0 from ⟨hS, HQ.out, HBK.out _ _ HIv.out.lo hK⟩)
      clear hS hK HT HQ
      go_wp2
      go_roundw
      case rel => exact ⟨j + 1, _, by omega, by go_num, R.out⟩
      case measure => simp [intOf]; omega
    · have HI2 := Lib.hid (show Inv FT W wr bP bC bF n t s [] 0 by rw [show t = j by omega]; exact HIv.out)
      clear HIv
      go_wp2_with fail
      go_loopw [10, 11] (fun v i wr => ∃ (j : Nat) (s : Sl) (G : List Nat), j ≤ len ∧ G.length ≤ j ∧ i = .int .i64 (j : Int) ∧ Inv FT W wr bP bC bF n t s G G.length ∧ Giv FT W.heap.size wr v (G.map fun (g : Nat) => (g : Int))) (fun _ i _ => len - (intOf i).toNat)
      case atStart => exact ⟨0, s, [], Nat.zero_le _, Nat.le_refl _, rfl, HI2.out, Giv.nil _ _ _⟩
      case round =>
        obtain ⟨j2, s2, G, hj2, hGl, rfl, hI, hG⟩ := hrel
        have HIv := Lib.hid hI
        have HGv := Lib.hid hG
        clear hI hG HI2
        by_cases hlt2 : j2 < len
        · obtain ⟨b, off, rfl, hb, hcells⟩ := HCELL.out (by omega)
          obtain ⟨z, hz, hz1, hz2⟩ := hcells j2 hlt2
          have hzc := (HIv.out.lo.cell (p := ⟨b, off + j2, none⟩) hb).trans hz
          clear hcells hz
          by_cases hzt : 0 ≤ z ∧ z < t
          · obtain ⟨hz3, hz4⟩ := hzt
            obtain ⟨p, rfl⟩ := Int.eq_ofNat_of_zero_le hz3
            have g1 : decide ((0 : Int) ≤ (p : Int)) = true := by simp
            have g2 : decide (p < t) = true := by simp; omega
            by_cases hpm : p ∈ G
            · have HF := Lib.hid (Give_no bP bC bF 0 (p : Int) s2 wr HIv.out.sl.is (HIv.out.row.find_no h2 (by omega) hpm))
              clear hpm
              go_wp2_with fail
              refine HF.out.mono ?_
              rintro e w2 ⟨rfl, rfl⟩
              go_wp2
              go_roundw
              case rel => exact ⟨j2 + 1, s2, G, by omega, by omega, by go_num, HIv.out, HGv.out⟩
              case measure => simp [intOf]; omega
            · obtain ⟨c, q1, q2, q3, q4, q5⟩ := HIv.out.row.give h2 (show p < t by omega) hpm
              have HF := Lib.hid (Give_in FT bP bC bF 0 p (p : Int) s2 c wr HIv.out.sl q1 q2 q4 (by rw [q3]; decide))
              have HQ := Lib.hid q5
              clear q1 q2 q3 q4 q5 hpm
              go_wp2_with fail
              refine HF.out.mono ?_
              rintro e w2 ⟨rfl, hS, hK⟩
              have HS := Lib.hid hS
              have HB := Lib.hid (HBK.out _ _ HIv.out.lo hK)
              have HG2 := Lib.hid (HGv.out.kept hK (fun _ => id))
              have hzc2 : w2.cell? ⟨b, off + j2, none⟩ = some (.int .i64 (p : Int)) := by
                rw [← hzc]
                exact (HB.out.cell (p := ⟨b, off + j2, none⟩) hb).trans (HIv.out.lo.cell (p := ⟨b, off + j2, none⟩) hb).symm
              clear hS hK hzc
              have HFT := Lib.hid (fun b (hf : FT b) => HS.out.lt hf)
              go_wp2_with (at_builtin; refine wpList_append_giv w2 rfl _ _ rfl _ (G.map fun (g : Nat) => (g : Int)) (p : Int) rfl rfl HG2.out HFT.out HB.out.size ?c1 ?_)
              case c1 => rw [int_map]; omega
              intro g cap' w3 hG3 hK3
              have R := Lib.hid (show Inv FT W w3 bP bC bF n t _ (G ++ [p]) (G ++ [p]).length from ⟨HS.out.kept hK3 (fun b hf hg => hg.1 hf), HQ.out, HB.out.trans (hK3.below HB.out.size (fun k hk h => by omega))⟩)
              have R2 := Lib.hid (show Giv FT W.heap.size w3 _ ((G ++ [p]).map fun (g : Nat) => (g : Int)) by rw [List.map_append]; exact hG3)
              clear hG3 hK3 HS HB HG2 HFT HQ HF
              go_wp2
              go_roundw
              case rel => exact ⟨j2 + 1, _, G ++ [p], by omega, by simp; omega, by go_num, R.out, R2.out⟩
              case measure => simp [intOf]; omega
          · by_cases hz3 : 0 ≤ z
            · have g1 : decide ((0 : Int) ≤ z) = true := by simpa using hz3
              have g2 : decide (z < (t : Int)) = false := by simp; omega
              clear hzt
              go_wp2
              go_roundw
              case rel => exact ⟨j2 + 1, s2, G, by omega, by omega, by go_num, HIv.out, HGv.out⟩
              case measure => simp [intOf]; omega
            · have g1 : decide ((0 : Int) ≤ z) = false := by simpa using hz3
              clear hzt
              go_wp2
              go_roundw
              case rel => exact ⟨j2 + 1, s2, G, by omega, by omega, by go_num, HIv.out, HGv.out⟩
              case measure => simp [intOf]; omega
        · obtain ⟨A3, cap3, rfl, hc3, hcells3⟩ := HGv.out.cells
          have HC3 := Lib.hid hcells3
          rw [int_map] at hc3 ⊢
          clear hcells3
          go_wp2_with fail
          go_loopw [12] (fun i wr => ∃ (m : Nat) (s : Sl), m ≤ G.length ∧ i = .int .i64 ((m : Int) - 1) ∧ Inv FT W wr bP bC bF n t s G m ∧ Giv FT W.heap.size wr (.slice A3 G.length cap3) (G.map fun (g : Nat) => (g : Int))) (fun i _ => (intOf i + 1).toNat)
          case atStart => exact ⟨G.length, s2, Nat.le_refl _, rfl, HIv.out, by have := HGv.out; rw [int_map] at this; exact this⟩
          case round =>
            obtain ⟨m, s3, hm3, rfl, hI, hG⟩ := hrel
            have HI3 := Lib.hid hI
            have HG3 := Lib.hid hG
            clear hI hG HIv HGv HC3
            cases m with
            | zero =>
              rw [show (((0 : Nat) : Int) - 1) = -1 from rfl]
              by_cases htn : t < n
              · obtain ⟨c, q1, q2, q3⟩ := HI3.out.row.last htn
                have HT := Lib.hid (Take_in FT bP bC bF 0 t s3 c (down n (t + 1)) (t : Int) wr HI3.out.sl q1 q3 (by rw [q2]; omega))
                have g3 : decide (t < n) = true := by simpa using htn
                clear q1 q2 q3
                go_wp2_with fail
                refine HT.out.mono ?_
                rintro e w2 ⟨rfl, hS, hK⟩
                have HB := Lib.hid (HBK.out _ _ HI3.out.lo hK)
                clear hS hK HT
                go_wp2_with fail
                refine (live_any _).mono ?_
                rintro e w6 ⟨rfl, hb⟩
                have HB8 := Lib.hid (HB.out.trans (hb.mono HB.out.size))
                clear hb
                go_wp2
                go_ret
                exact ⟨rfl, HB8.out⟩
              · have HT := Lib.hid (Take_full bP bC bF 0 s3 wr HI3.out.sl.is (by rw [HI3.out.row.fr, show t = n by omega, down_nil]; rfl))
                have g3 : decide (t < n) = false := by simpa using htn
                go_wp2_with fail
                refine HT.out.mono ?_
                rintro e w2 ⟨rfl, rfl⟩
                go_wp2_with fail
                refine (live_any _).mono ?_
                rintro e w6 ⟨rfl, hb⟩
                have HB8 := Lib.hid (HI3.out.lo.trans (hb.mono HI3.out.lo.size))
                clear hb
                go_wp2
                go_ret
                exact ⟨rfl, HB8.out⟩
            | succ m =>
              rw [show (((m + 1 : Nat) : Int) - 1) = (m : Int) by omega]
              obtain ⟨c, q1, q2, q3, q4⟩ := HI3.out.row.take3 (by omega) (List.replicate 0 0)
              have HT := Lib.hid (Take_in FT bP bC bF 0 G[m] s3 c (down n t ++ G.take m) ((G[m] : Int) + 64) wr HI3.out.sl q1 q3 (by rw [q2]; omega))
              have HQ := Lib.hid q4
              have hgm : G[m] < 64 := by have := HI3.out.row.lt _ (List.getElem_mem (show m < G.length by omega)); omega
              have HGM := Lib.hid (show (G.map fun (g : Nat) => (g : Int))[m]? = some (G[m] : Int) by rw [List.getElem?_map, List.getElem?_eq_getElem (show m < G.length by omega)]; rfl)
              clear q1 q2 q3 q4
              generalize G[m] = gm at *
              go_wp2_with fail
              refine HT.out.mono ?_
              rintro e w2 ⟨rfl, hS, hK⟩
              have R := Lib.hid (show Inv FT W w2 bP bC bF n t _ G m from ⟨hS, HQ.out, HBK.out _ _ HI3.out.lo hK⟩)
              have R2 := Lib.hid (HG3.out.kept hK (fun _ => id))
              obtain ⟨A4, cap4, e4, _, h4⟩ := R2.out.cells
              rw [int_map] at e4
              injection e4 with e5 e6 e7
              subst e5
              obtain ⟨g4, rfl, hcell4⟩ := h4 m _ HGM.out
              clear hS hK HT HQ e6 e7 h4 HGM
              go_wp2
              go_roundw
              case rel => exact ⟨m, _, by omega, by go_num, R.out, R2.out⟩
              case measure => simp [intOf]

set_option maxRecDepth 100000 in
set_option maxHeartbeats 2000000 in
theorem walk (n t : Int) (A : Option Addr) (len cap : Nat) (zs : List Int) {W : World} (wn : (Lit.int .i64 n).wf = true) (wt : (Lit.int .i64 t).wf = true) (hw : IsInts .i64 W A len cap zs) :
    Calls Try.prog 8 #[.int .i64 n, .int .i64 t, .slice A len cap] W fun e w' => e = .returned (.bool true) ∧ Below W.heap.size W w' := by
  by_cases hn : 1 ≤ n ∧ n ≤ 64
  · obtain ⟨h1, h2⟩ := hn
    obtain ⟨n, rfl⟩ := Int.eq_ofNat_of_zero_le (show 0 ≤ n by omega)
    by_cases ht : 0 ≤ t ∧ t ≤ n ∧ len ≤ 64
    · obtain ⟨ht0, ht1, ht2⟩ := ht
      obtain ⟨t, rfl⟩ := Int.eq_ofNat_of_zero_le ht0
      exact main n t A len cap zs (by omega) (by omega) (by omega) ht2 hw
    · have hlc : len ≤ 9223372036854775807 := by obtain ⟨_, h, _⟩ := cells_of hw; unfold maxLen at h; omega
      clear wn wt hw
      have t1 : decide ((64 : Int) < (n : Int)) = false := by simp; omega
      have key : ∀ (w : World), True := fun _ => trivial
      clear key
      by_cases ht0 : t < 0
      · have t2 : decide (t < 0) = true := by simpa using ht0
        clear ht
        go_enter Try.func8, Try.ntmps8
        go_wp2_with fail
        refine (New_in n 0 W (by omega) (by omega) (by decide)).mono ?_
        rintro e w1 ⟨FT, bP, bC, bF, bs, rfl, hl, hS, hB, hlo⟩
        have HB := Lib.hid hB
        clear hS hB hlo hl
        go_wp2_with fail
        refine (live_any _).mono ?_
        rintro e w6 ⟨rfl, hb⟩
        have HB8 := Lib.hid (HB.out.trans (hb.mono HB.out.size))
        clear hb
        go_wp2
        go_ret
        exact ⟨rfl, HB8.out⟩
      · have t2 : decide (t < 0) = false := by simpa using ht0
        by_cases ht1 : (n : Int) < t
        · have t3 : decide ((n : Int) < t) = true := by simpa using ht1
          clear ht
          go_enter Try.func8, Try.ntmps8
          go_wp2_with fail
          refine (New_in n 0 W (by omega) (by omega) (by decide)).mono ?_
          rintro e w1 ⟨FT, bP, bC, bF, bs, rfl, hl, hS, hB, hlo⟩
          have HB := Lib.hid hB
          clear hS hB hlo hl
          go_wp2_with fail
          refine (live_any _).mono ?_
          rintro e w6 ⟨rfl, hb⟩
          have HB8 := Lib.hid (HB.out.trans (hb.mono HB.out.size))
          clear hb
          go_wp2
          go_ret
          exact ⟨rfl, HB8.out⟩
        · have t3 : decide ((n : Int) < t) = false := by simpa using ht1
          have t4 : decide ((64 : Int) < (len : Int)) = true := by simp; omega
          clear ht
          go_enter Try.func8, Try.ntmps8
          go_wp2_with fail
          refine (New_in n 0 W (by omega) (by omega) (by decide)).mono ?_
          rintro e w1 ⟨FT, bP, bC, bF, bs, rfl, hl, hS, hB, hlo⟩
          have HB := Lib.hid hB
          clear hS hB hlo hl
          go_wp2_with fail
          refine (live_any _).mono ?_
          rintro e w6 ⟨rfl, hb⟩
          have HB8 := Lib.hid (HB.out.trans (hb.mono HB.out.size))
          clear hb
          go_wp2
          go_ret
          exact ⟨rfl, HB8.out⟩
  · clear wn wt hw
    go_enter Try.func8, Try.ntmps8
    go_wp2_with fail
    refine (New_bad n 0 W (by omega)).mono ?_
    rintro e w1 ⟨rfl, rfl⟩
    go_wp2_with fail
    refine (live_any _).mono ?_
    rintro e w6 ⟨rfl, hb⟩
    have HB8 := Lib.hid hb
    clear hb
    go_wp2
    go_ret
    exact ⟨rfl, HB8.out⟩

theorem own : ownKnob Try.prog.godebug = none := by kernel_rfl
theorem laidOut : laidOutB Try.prog = true := by kernel_rfl
theorem contract (H : Type) (enc : TypeId × Value → H) (W : World) (base : Nat) (args : Array Value) (ds gs : List (DataW H)) (before : List MemPlace)
    (hval : ∀ (j : Nat) t v, Try.f8.params[j]? = some t → args[j]? = some v → Value.okWide Try.prog W .any base t v)
    (hW : DataW.Whole enc Try.prog Try.f8.params.toList Rows.slabRowSpec.vars false W args.toList ds gs before) :
    Calls Try.prog 8 args W fun e W' => ∃ v, e = .returned v ∧ Rows.slabRowSpec.post enc Try.prog Try.f8 false true false false W args v W' := by
  have hW' := hW
  obtain ⟨p, q, hA0, hV, rfl, hfz, hnd⟩ := hW
  have hA : DataW.TrodAll enc Try.prog W 0 (fun _ => true) true Try.f8.params.toList args.toList ds p := hA0
  rw [Try.params8] at hA hval
  obtain ⟨v0, vs0, d0, ds0, p0, q0, hargs, rfl, rfl, h0, r0⟩ := trodAll_cons hA
  obtain ⟨v1, vs1, d1, ds1, p1, q1, rfl, rfl, rfl, h1, r1⟩ := trodAll_cons r0
  obtain ⟨v2, vs2, d2, ds2, p2, q2, rfl, rfl, rfl, h2, r2⟩ := trodAll_cons r1
  obtain ⟨rfl, rfl, rfl⟩ := trodAll_nil r2
  obtain rfl : args = #[v0, v1, v2] := by cases args; simp_all
  obtain ⟨rfl, rfl⟩ := trodVars_none hV
  obtain ⟨a0, rfl, rfl, rfl, w0⟩ := open_int Try.underlying3 (hval 0 3 v0 rfl rfl) h0
  obtain ⟨a1, rfl, rfl, rfl, w1⟩ := open_int Try.underlying3 (hval 1 3 v1 rfl rfl) h1
  have k2 := h2
  have lt2 : ∀ x ∈ p2, x.block < W.heap.size := by obtain ⟨m, hm⟩ := k2; exact DataW.trod_lt m _ _ _ hm
  obtain ⟨a2, len2, cap2, z2, rfl, w2⟩ := open_slice_int Try.underlying32 Try.underlying3 (by kernel_rfl) (hval 2 32 v2 rfl rfl) h2
  clear hA0
  refine (walk a0 a1 a2 len2 cap2 z2 w0 w1 w2).mono fun e W' ⟨he, bel⟩ => ?_
  subst he
  exact ⟨_, rfl, _, _, _, [], _, [], hW', trodAll_mk1 (shut_bool Try.underlying4 _), (trodAll_cons_mk (shut_int Try.underlying3 w0) (trodAll_cons_mk (shut_int Try.underlying3 w1) (trodAll_cons_mk (Below.trod laidOut (by kernel_rfl) (of_decide_eq_true (by kernel_rfl)) k2 bel lt2) trodAll_mk0))), rfl, bel.frame _, fun h => by cases h⟩

set_option maxRecDepth 100000 in
theorem lifted (os : Os) (started : os.Started) (H : Type) (enc : TypeId × Value → H) :
    ReturnsInHanded {} Try.checked os 8 .any (Rows.slabRowSpec.pre6 enc Try.prog Try.f8 Rows.slabRowRow.domain false) (Rows.slabRowSpec.post enc Try.prog Try.f8 false true false false) := by
  refine returnsInHanded_of_change (C := Try.checked) own started (by kernel_rfl) Try.func8
    (ChangeSpec.witness6 (enc := enc) (C := Try.checked) false ⟨#[], #[.int .i64 0, .int .i64 0, .slice none 0 0], []⟩ 8 (by kernel_rfl) (by kernel_rfl) (by kernel_rfl) (by kernel_rfl)) ?_
  intro W base args ds gs before hval hW _ _
  exact contract H enc W base args ds gs before hval hW

theorem over : Rows.slabRowRow.holds Try.pinned (OpenSpec.ofChange Rows.slabRowSpec) :=
  OpenClaim.holds_of_wide 8 Try.f8 rfl rfl rfl rfl rfl rfl rfl ⟨rfl, rfl, rfl, rfl, rfl⟩ rfl rfl rfl rfl rfl (by kernel_rfl) Try.func8 (by kernel_rfl)
    (of_decide_eq_true (by kernel_rfl)) (by unfold Func.isWrapper; first | (rw [if_pos (by decide +kernel)]; kernel_rfl) | (rw [if_neg (by decide +kernel)]; exact ⟨rfl, rfl⟩))
    (fun os started H enc _ => lifted os started H enc)
end Go.Proofs.Ytdchoaihbjmpbab.slabRow
namespace Go.Proofs.Ytdchoaihbjmpbab
theorem slabRow_proved : Rows.SlabRowSaid := slabRow.over
end Go.Proofs.Ytdchoaihbjmpbab

