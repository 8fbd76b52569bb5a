/- For all numbers of cells, and either order, the law SlabAll returns true: a slab gives as many cells as it has, of unlike numbers, and no more; when all are given back it gives as many again, none of them by a handle of before. -/
import Derived.Test.YtdchoaihbjmpbabSlab10
import Derived.Test.YtdchoaihbjmpbabRows
namespace Go.Proofs.Ytdchoaihbjmpbab.slabAll
open Go.ChangeShapes Go.WideShapes Go.ChangeAt Go.RowKit
set_option linter.unusedVariables false

structure Inv (FT : Nat → Prop) (W w : World) (bP bC bF n t : Nat) (s : Sl) (G : List Nat) (m : Nat) : Prop where
  sl : SlabIn FT w bP bC bF 1 s
  row : RowSt s n t G m
  lo : Below W.heap.size W w
/-- The handles so far. -/
def upto (j : Nat) : List Int := (List.range j).map fun (i : Nat) => (i : Int)
theorem upto_len (j : Nat) : (upto j).length = j := by simp [upto]
theorem upto_succ (j : Nat) : upto (j + 1) = upto j ++ [(j : Int)] := by simp [upto, List.range_succ]
theorem upto_at {j i : Nat} (h : i < j) : (upto j)[i]? = some (i : Int) := by simp [upto, h]
/-- In which order they are given back. -/
def ord (b : Bool) (n i : Nat) : Nat := if b = true then n - 1 - i else i
def gl (b : Bool) (n j : Nat) : List Nat := (List.range j).map (ord b n)
theorem gl_len (b : Bool) (n j : Nat) : (gl b n j).length = j := by simp [gl]
theorem gl_succ (b : Bool) (n j : Nat) : gl b n (j + 1) = gl b n j ++ [ord b n j] := by simp [gl, List.range_succ]
theorem ord_lt {b : Bool} {n i : Nat} (h : i < n) : ord b n i < n := by unfold ord; split <;> omega
theorem ord_not {b : Bool} {n j : Nat} (h : j < n) : ord b n j ∉ gl b n j := by
  intro hm
  simp only [gl, List.mem_map, List.mem_range] at hm
  obtain ⟨i, hi, e⟩ := hm
  unfold ord at e
  cases b <;> simp at e <;> omega

set_option maxRecDepth 100000 in
set_option maxHeartbeats 4000000 in
theorem main (n : Nat) (b : Bool) (W : World) (h1 : 1 ≤ n) (h2 : n ≤ 64) :
    Calls Try.prog 6 #[.int .i64 n, .bool b] W fun e w' => e = .returned (.bool true) ∧ Below W.heap.size W w' := by
  have t1 : decide ((n : Int) < 1) = false := by simp; omega
  have t2 : decide ((64 : Int) < (n : Int)) = false := by simp; omega
  go_enter Try.func6, Try.ntmps6
  go_wp2_with fail
  refine (New_in n 1 W h1 h2 (by decide)).mono ?_
  rintro e w1 ⟨FT, bP, bC, bF, bs, rfl, hbl, hS, hB, hlo⟩
  have HV := Lib.hid (show Inv FT W w1 bP bC bF n 0 (newS n 1 bs) [] 0 from ⟨hS, RowSt.new n 1 bs hbl, hB⟩)
  have HBK := Lib.hid (fun w' w'' (h : Below W.heap.size W w') (q : Kept FT w' w'') => h.trans (q.below (B := W.heap.size) h.size (fun i hi hf => by have := hlo i hf; omega)))
  clear hS hB hlo hbl
  go_wp2_with fail
  go_loopw [7, 8] (fun v i wr => ∃ (j : Nat) (s : Sl), j ≤ n ∧ i = .int .i64 (j : Int) ∧ Inv FT W wr bP bC bF n j s [] 0 ∧ Giv FT W.heap.size wr v (upto j)) (fun _ i _ => n - (intOf i).toNat)
  case atStart => exact ⟨0, _, Nat.zero_le _, rfl, HV.out, Giv.nil _ _ _⟩
  case round =>
    obtain ⟨j, s, hj, rfl, hI, hG⟩ := hrel
    have HIv := Lib.hid hI
    have HGv := Lib.hid hG
    clear hI hG HV
    by_cases hlt : j < n
    · obtain ⟨c, q1, q2, q3, q4⟩ := HIv.out.row.take1 hlt (List.replicate 1 0)
      have HT := Lib.hid (Take_in FT bP bC bF 1 j s c (down n (j + 1)) (j : Int) wr HIv.out.sl q1 q3 (by rw [q2]; omega))
      have HQ := Lib.hid q4
      clear q1 q2 q3 q4
      have hr : (j : Int) % 64 = j := by omega
      have t3 : decide (n ≤ j) = false := by simp; omega
      go_wp2_with fail
      refine HT.out.mono ?_
      rintro e w2 ⟨rfl, hS, hK⟩
      have HI2 := Lib.hid (show Inv FT W w2 bP bC bF n (j + 1) _ [] 0 from ⟨hS, HQ.out, HBK.out _ _ HIv.out.lo hK⟩)
      have HG2 := Lib.hid (HGv.out.kept hK (fun _ => id))
      have HFr := Lib.hid (by have := Free_any bP bC bF 1 _ w2 hS.is; rw [HQ.out.fr] at this; simpa [down_len] using this)
      have HFT := Lib.hid (fun b (hf : FT b) => hS.lt hf)
      clear hS hK HT HQ HIv HGv
      go_wp2_with fail
      refine HFr.out.mono ?_
      rintro e w3 ⟨rfl, rfl⟩
      rw [show ((n - (j + 1) : Nat) : Int) = (n : Int) - 1 - (j : Int) by omega]
      go_wp2_with (at_builtin; refine wpList_append_giv w2 rfl _ _ rfl _ (upto j) (j : Int) rfl rfl HG2.out HFT.out HI2.out.lo.size ?c1 ?_)
      case c1 => rw [upto_len]; omega
      intro g cap' w3 hG3 hK3
      have R := Lib.hid (show Inv FT W w3 bP bC bF n (j + 1) _ [] 0 from ⟨HI2.out.sl.kept hK3 (fun b hf hg => hg.1 hf), HI2.out.row, HI2.out.lo.trans (hK3.below HI2.out.lo.size (fun k hk h => by omega))⟩)
      have R2 := Lib.hid (show Giv FT W.heap.size w3 _ (upto (j + 1)) by rw [upto_succ]; exact hG3)
      clear hG3 hK3 HI2 HG2 HFT HFr
      go_wp2
      go_roundw
      case rel => exact ⟨j + 1, _, by omega, by go_num, R.out, R2.out⟩
      case measure => simp [intOf]; omega
    · obtain rfl : j = n := by omega
      obtain ⟨A, cap, rfl, hat⟩ := HGv.out.at_
      have hcap := hat.1
      have HAT := Lib.hid hat
      rw [upto_len] at hcap HGv ⊢
      have HT := Lib.hid (Take_full bP bC bF 1 s wr HIv.out.sl.is (by rw [HIv.out.row.fr, down_nil]; rfl))
      clear hat
      go_wp2_with fail
      refine HT.out.mono ?_
      rintro e w2 ⟨rfl, rfl⟩
      go_wp2_with fail
      refine (Live_any bP bC bF 1 s _ HIv.out.sl.is).mono ?_
      rintro e w2 hlv
      obtain ⟨A2, cap2, rfl, hat2, hb2⟩ := live_at hlv
      have hlive : s.live = upto j := by
        rw [live_all (fun i c hc => by have := HIv.out.row.at_ i c hc; have hil := (List.getElem?_eq_some_iff.1 hc).1; rw [HIv.out.row.len] at hil; simpa [hil] using this.symm), HIv.out.row.len]
        rfl
      rw [hlive] at hat2 ⊢
      have HAT1 := Lib.hid (show IntsAt w2 A cap (upto j) from by obtain ⟨A', cap', e, h⟩ := (HGv.out.below hb2).at_; rw [upto_len] at e; injection e with e1 e2 e3; subst e1; subst e3; exact h)
      have HAT2 := Lib.hid hat2
      have HIv2 := Lib.hid (show Inv FT W w2 bP bC bF j j s [] 0 from ⟨HIv.out.sl.below hb2, HIv.out.row, HIv.out.lo.trans (hb2.mono HIv.out.lo.size)⟩)
      have HGv2 := Lib.hid (HGv.out.below hb2)
      have HIN := Lib.hid (Ints_yes A2 A cap2 cap (upto j) w2 HAT2.out HAT1.out (by rw [upto_len]; omega))
      rw [upto_len] at HIN ⊢
      clear hlv hlive hat2 hb2 HIv HGv HT HAT
      go_wp2_with fail
      refine HIN.out.mono ?_
      rintro e w3 ⟨rfl, m3, hw3⟩
      have hb3 : Below w2.heap.size w2 w3 := by rw [hw3]; exact below_drewN (Below.refl _ _) m3
      have HI3 := Lib.hid (show Inv FT W w3 bP bC bF j j s (gl b j 0) (gl b j 0).length from ⟨HIv2.out.sl.below hb3, HIv2.out.row, HIv2.out.lo.trans (hb3.mono HIv2.out.lo.size)⟩)
      have HG3 := Lib.hid (HGv2.out.below hb3)
      clear hw3 hb3 HIv2 HGv2 HIN HAT1 HAT2
      go_wp2_with fail
      go_loopw [13] (fun i wr => ∃ (q : Nat) (s : Sl), q ≤ j ∧ i = .int .i64 (q : Int) ∧ Inv FT W wr bP bC bF j j s (gl b j q) (gl b j q).length ∧ Giv FT W.heap.size wr (.slice A j cap) (upto j)) (fun i _ => j - (intOf i).toNat)
      case atStart => exact ⟨0, s, Nat.zero_le _, rfl, HI3.out, HG3.out⟩
      case round =>
        obtain ⟨q, s2, hq, rfl, hI, hG⟩ := hrel
        have HI4 := Lib.hid hI
        have HG4 := Lib.hid hG
        clear hI hG HI3 HG3
        obtain ⟨A', cap', e, hat⟩ := HG4.out.at_
        rw [upto_len] at e
        injection e with e1 e2 e3
        subst e1
        subst e3
        clear e2
        obtain ⟨g, rfl, hcell⟩ := hat.2 (by rw [upto_len]; omega)
        clear hat
        by_cases hlt2 : q < j
        · obtain ⟨c, q1, q2, q3, q4, q5⟩ := HI4.out.row.give h2 (ord_lt (b := b) hlt2) (ord_not hlt2)
          have HF := Lib.hid (Give_in FT bP bC bF 1 _ _ s2 c wr HI4.out.sl q1 q2 q4 (by rw [q3]; decide))
          have HQ := Lib.hid q5
          rw [← gl_succ] at HQ
          clear q1 q2 q3 q4 q5
          have d1 := hcell q _ (upto_at hlt2)
          obtain ⟨r, hr⟩ : ∃ r : Nat, r = j - 1 - q := ⟨_, rfl⟩
          have hr2 : (j : Int) - 1 - (q : Int) = (r : Int) := by omega
          have d2 := hcell r _ (upto_at (show r < j by omega))
          have hrj : r < j := by omega
          have HR := Lib.hid hr
          clear hcell hr
          cases b with
          | false =>
            clear hr2 d2
            have HO := Lib.hid (show ord false j q = q by simp [ord])
            rw [HO.out] at HF
            go_wp2_with fail
            refine HF.out.mono ?_
            rintro e w4 ⟨rfl, hS, hK⟩
            have R := Lib.hid (show Inv FT W w4 bP bC bF j j _ (gl false j (q + 1)) (gl false j (q + 1)).length from ⟨by rw [HO.out]; exact hS, HQ.out, HBK.out _ _ HI4.out.lo hK⟩)
            have R2 := Lib.hid (HG4.out.kept hK (fun _ => id))
            clear hS hK HF HQ
            go_wp2
            go_roundw
            case rel => exact ⟨q + 1, _, by omega, by go_num, R.out, R2.out⟩
            case measure => simp [intOf]; omega
          | true =>
            have HO := Lib.hid (show ord true j q = r by simp [ord, HR.out])
            rw [HO.out] at HF
            go_wp2_with fail
            refine HF.out.mono ?_
            rintro e w4 ⟨rfl, hS, hK⟩
            have R := Lib.hid (show Inv FT W w4 bP bC bF j j _ (gl true j (q + 1)) (gl true j (q + 1)).length from ⟨by rw [HO.out]; exact hS, HQ.out, HBK.out _ _ HI4.out.lo hK⟩)
            have R2 := Lib.hid (HG4.out.kept hK (fun _ => id))
            clear hS hK HF HQ hr2
            go_wp2
            go_roundw
            case rel => exact ⟨q + 1, _, by omega, by go_num, R.out, R2.out⟩
            case measure => simp [intOf]; omega
        · have HI5 := Lib.hid (show Inv FT W wr bP bC bF j j s2 (gl b j j) (j - 0) by have := HI4.out; rw [show q = j by omega, gl_len] at this; exact this)
          clear hcell
          go_wp2_with fail
          go_loopw [15] (fun i wr => ∃ (q : Nat) (s : Sl), q ≤ j ∧ i = .int .i64 (q : Int) ∧ Inv FT W wr bP bC bF j j s (gl b j j) (j - q) ∧ Giv FT W.heap.size wr (.slice (some ⟨g, 0, none⟩) j cap) (upto j)) (fun i _ => j - (intOf i).toNat)
          case atStart => exact ⟨0, s2, Nat.zero_le _, rfl, HI5.out, HG4.out⟩
          case round =>
            obtain ⟨q3, s3, hq3, rfl, hI, hG⟩ := hrel
            have HI6 := Lib.hid hI
            have HG6 := Lib.hid hG
            clear hI hG HI5 HI4 HG4
            by_cases hlt3 : q3 < j
            · obtain ⟨m, hm⟩ : ∃ m, j - q3 = m + 1 := ⟨j - q3 - 1, by omega⟩
              have hrow := HI6.out.row
              rw [hm] at hrow
              have hml : m < (gl b j j).length := by rw [gl_len]; omega
              obtain ⟨c, q1, q2, q4, q5⟩ := hrow.take3 hml (List.replicate 1 0)
              obtain ⟨gm, hgm⟩ : ∃ gm, gm = (gl b j j)[m] := ⟨_, rfl⟩
              rw [← hgm] at q1 q4 q5
              have HT := Lib.hid (Take_in FT bP bC bF 1 gm s3 c _ ((gm : Int) + 64) _ HI6.out.sl q1 q4 (by rw [q2]; omega))
              have HQ := Lib.hid q5
              have HM := Lib.hid (show j - (q3 + 1) = m by omega)
              clear q1 q2 q4 q5 hrow hm hgm hml
              go_wp2_with fail
              refine HT.out.mono ?_
              rintro e w4 ⟨rfl, hS, hK⟩
              have R := Lib.hid (show Inv FT W w4 bP bC bF j j _ (gl b j j) (j - (q3 + 1)) from ⟨hS, by rw [HM.out]; exact HQ.out, HBK.out _ _ HI6.out.lo hK⟩)
              have R2 := Lib.hid (HG6.out.kept hK (fun _ => id))
              clear hS hK HT HQ
              go_wp2_with fail
              go_loop [18] (fun i => ∃ q : Nat, q ≤ j ∧ i = .int .i64 (q : Int)) (fun i => j - (intOf i).toNat)
              case atStart => exact ⟨0, Nat.zero_le _, rfl⟩
              case round =>
                obtain ⟨q7, hq7, rfl⟩ := hrel
                by_cases hlt7 : q7 < j
                · obtain ⟨A8, cap8, e8, hat8⟩ := R2.out.at_
                  obtain ⟨g8, rfl, hcell8⟩ := hat8.2 (by rw [upto_len]; omega)
                  have e9 : g = g8 := by injection e8 with e8; injection e8 with e8; injection e8
                  subst e9
                  have d8 := hcell8 q7 _ (upto_at hlt7)
                  have g8 : ((q7 : Int) == (gm : Int) + 64) = false := by simp; omega
                  clear hcell8 hat8 e8
                  go_wp2
                  go_round
                  case rel => exact ⟨q7 + 1, by omega, by go_num⟩
                  case measure => simp [intOf]; omega
                · go_wp2
                  go_roundw
                  case rel => exact ⟨q3 + 1, _, by omega, by go_num, R.out, R2.out⟩
                  case measure => simp [intOf]; omega
            · have HFr := Lib.hid (by have := Free_any bP bC bF 1 s3 _ HI6.out.sl.is; rw [HI6.out.row.fr, down_nil, show j - q3 = 0 by omega] at this; simpa using this)
              go_wp2_with fail
              refine HFr.out.mono ?_
              rintro e w4 ⟨rfl, rfl⟩
              go_wp2_with fail
              refine (live_any _).mono ?_
              rintro e w6 ⟨rfl, hb⟩
              have HB8 := Lib.hid (HI6.out.lo.trans (hb.mono HI6.out.lo.size))
              clear hb
              go_wp2
              go_ret
              exact ⟨rfl, HB8.out⟩

set_option maxRecDepth 100000 in
set_option maxHeartbeats 2000000 in
theorem walk (n : Int) (b : Bool) (wn : (Lit.int .i64 n).wf = true) (W : World) :
    Calls Try.prog 6 #[.int .i64 n, .bool b] W fun e w' => e = .returned (.bool true) ∧ Below W.heap.size W w' := by
  clear wn
  by_cases hn : 1 ≤ n ∧ n ≤ 64
  · obtain ⟨h1, h2⟩ := hn
    obtain ⟨n, rfl⟩ := Int.eq_ofNat_of_zero_le (show 0 ≤ n by omega)
    exact main n b W (by omega) (by omega)
  · by_cases h1 : n < 1
    · have HN := Lib.hid (New_bad n 1 W (by omega))
      clear hn
      go_enter Try.func6, Try.ntmps6
      go_wp2_with fail
      refine HN.out.mono ?_
      rintro e w1 ⟨rfl, rfl⟩
      go_wp2_with fail
      refine (live_any _).mono ?_
      rintro e w6 ⟨rfl, hb⟩
      have HB8 := Lib.hid hb
      clear hb
      go_wp2
      go_ret
      exact ⟨rfl, HB8.out⟩
    · have HN := Lib.hid (New_bad n 1 W (by omega))
      have h2 : 64 < n := by omega
      clear hn
      go_enter Try.func6, Try.ntmps6
      go_wp2_with fail
      refine HN.out.mono ?_
      rintro e w1 ⟨rfl, rfl⟩
      go_wp2_with fail
      refine (live_any _).mono ?_
      rintro e w6 ⟨rfl, hb⟩
      have HB8 := Lib.hid hb
      clear hb
      go_wp2
      go_ret
      exact ⟨rfl, HB8.out⟩

theorem own : ownKnob Try.prog.godebug = none := by kernel_rfl
theorem laidOut : laidOutB Try.prog = true := by kernel_rfl
theorem contract (H : Type) (enc : TypeId × Value → H) (W : World) (base : Nat) (args : Array Value) (ds gs : List (DataW H)) (before : List MemPlace)
    (hval : ∀ (j : Nat) t v, Try.f6.params[j]? = some t → args[j]? = some v → Value.okWide Try.prog W .any base t v)
    (hW : DataW.Whole enc Try.prog Try.f6.params.toList Rows.slabAllSpec.vars false W args.toList ds gs before) :
    Calls Try.prog 6 args W fun e W' => ∃ v, e = .returned v ∧ Rows.slabAllSpec.post enc Try.prog Try.f6 false true false false W args v W' := by
  have hW' := hW
  obtain ⟨p, q, hA0, hV, rfl, hfz, hnd⟩ := hW
  have hA : DataW.TrodAll enc Try.prog W 0 (fun _ => true) true Try.f6.params.toList args.toList ds p := hA0
  rw [Try.params6] at hA hval
  obtain ⟨v0, vs0, d0, ds0, p0, q0, hargs, rfl, rfl, h0, r0⟩ := trodAll_cons hA
  obtain ⟨v1, vs1, d1, ds1, p1, q1, rfl, rfl, rfl, h1, r1⟩ := trodAll_cons r0
  obtain ⟨rfl, rfl, rfl⟩ := trodAll_nil r1
  obtain rfl : args = #[v0, v1] := by cases args; simp_all
  obtain ⟨rfl, rfl⟩ := trodVars_none hV
  obtain ⟨a0, rfl, rfl, rfl, w0⟩ := open_int Try.underlying3 (hval 0 3 v0 rfl rfl) h0
  obtain ⟨a1, rfl, rfl, rfl⟩ := open_bool Try.underlying4 (hval 1 4 v1 rfl rfl) h1
  clear hA0
  refine (walk a0 a1 w0 W).mono fun e W' ⟨he, bel⟩ => ?_
  subst he
  exact ⟨_, rfl, _, _, _, [], _, [], hW', trodAll_mk1 (shut_bool Try.underlying4 _), (trodAll_cons_mk (shut_int Try.underlying3 w0) (trodAll_cons_mk (shut_bool Try.underlying4 _) trodAll_mk0)), rfl, bel.frame _, fun h => by cases h⟩

set_option maxRecDepth 100000 in
theorem lifted (os : Os) (started : os.Started) (H : Type) (enc : TypeId × Value → H) :
    ReturnsInHanded {} Try.checked os 6 .any (Rows.slabAllSpec.pre6 enc Try.prog Try.f6 Rows.slabAllRow.domain false) (Rows.slabAllSpec.post enc Try.prog Try.f6 false true false false) := by
  refine returnsInHanded_of_change (C := Try.checked) own started (by kernel_rfl) Try.func6
    (ChangeSpec.witness6 (enc := enc) (C := Try.checked) false ⟨#[], #[.int .i64 0, .bool false], []⟩ 8 (by kernel_rfl) (by kernel_rfl) (by kernel_rfl) (by kernel_rfl)) ?_
  intro W base args ds gs before hval hW _ _
  exact contract H enc W base args ds gs before hval hW

theorem over : Rows.slabAllRow.holds Try.pinned (OpenSpec.ofChange Rows.slabAllSpec) :=
  OpenClaim.holds_of_wide 6 Try.f6 rfl rfl rfl rfl rfl rfl rfl ⟨rfl, rfl, rfl, rfl, rfl⟩ rfl rfl rfl rfl rfl (by kernel_rfl) Try.func6 (by kernel_rfl)
    (of_decide_eq_true (by kernel_rfl)) (by unfold Func.isWrapper; first | (rw [if_pos (by decide +kernel)]; kernel_rfl) | (rw [if_neg (by decide +kernel)]; exact ⟨rfl, rfl⟩))
    (fun os started H enc _ => lifted os started H enc)
end Go.Proofs.Ytdchoaihbjmpbab.slabAll
namespace Go.Proofs.Ytdchoaihbjmpbab
theorem slabAll_proved : Rows.SlabAllSaid := slabAll.over
end Go.Proofs.Ytdchoaihbjmpbab

