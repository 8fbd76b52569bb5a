/- For all lists of calls the law WheelDrains returns true: emptying row by row, as Next tells them, all ids come, once each, and nothing is left (of at most 100 calls, else only the document's examples are asked). -/
import Derived.Test.YtknehglahdkafaaDoorWops
import Derived.Test.YtknehglahdkafaaDoorRows
import Derived.Deep.RegionHeld3
namespace Go.Proofs.YtknehglahdkafaaDoor.wheelDrains
open Go.ChangeShapes Go.WideShapes Go.ChangeAt Go.RowKit
set_option linter.unusedVariables false

def bE : Elem Bool where
  val b := .bool b
  dat b := .lit (.bool b)
  zero := false
  valI := fun a b h => by simpa using h
  datI := fun a b h => by simpa using h
theorem zeroB (w : World) : (zeroValue 4).run Tryd.prog w = .ok (bE.val bE.zero) w := by
  have : (Tryd.prog.info? 4).map (fun i => i.zero) = some (some (.bool false)) := by kernel_rfl
  cases h : Tryd.prog.info? 4 with
  | none => rw [h] at this; cases this
  | some i => rw [h] at this; simp at this; simp [zeroValue, typeInfo, h, this, bE]
/-- Between two rounds of the second loop. -/
structure DInv (W w : World) (bP bM bG n : Nat) (R : Nat → List Nat) (f : Int → Option Bool) (g : Nat) : Prop where
  wh : Wh w bP bM R
  mp : IMap bE w bG f g
  ge : W.heap.size ≤ bP ∧ W.heap.size ≤ bM ∧ W.heap.size ≤ bG
  ne : bG ≠ bP ∧ bG ≠ bM
  fr : ∀ i, i < 64 → ∀ x : Nat, x ∈ R i → f (x : Int) = none
  n : g + tot R 64 = n
  lo : Below W.heap.size W w
/-- What Next has told. -/
def NextIs (R : Nat → List Nat) (v7 v8 : Value) : Prop :=
  (∃ i : Nat, i < 64 ∧ R i ≠ [] ∧ (∀ j, j < i → R j = []) ∧ v7 = .int .i64 (i : Int) ∧ v8 = .bool true) ∨ ((∀ j, j < 64 → R j = []) ∧ v7 = .int .i64 0 ∧ v8 = .bool false)
theorem next_is {R : Nat → List Nat} {m : Nat} (hm : ∀ i, i < 64 → m.testBit i = !(R i).isEmpty) : NextIs R (.int .i64 ((nextN [m] (0 : Int).toNat).1 : Nat)) (.bool (nextN [m] (0 : Int).toNat).2) := by
  rcases next_ways hm 0 with ⟨i, _, h2, h3, h4, h5⟩ | ⟨h1, h2⟩
  · left
    refine ⟨i, h2, h3, fun j hj => h4 j (Nat.zero_le _) hj, ?_, ?_⟩
    · rw [show (0 : Int).toNat = 0 from rfl, h5]
    · rw [show (0 : Int).toNat = 0 from rfl, h5]
  · right
    refine ⟨fun j hj => h1 j (Nat.zero_le _) hj, ?_, ?_⟩
    · rw [show (0 : Int).toNat = 0 from rfl, h2]; rfl
    · rw [show (0 : Int).toNat = 0 from rfl, h2]
def left78 (v7 v8 : Value) : Nat := match v8 with | .bool true => 64 - (intOf v7).toNat | _ => 0
theorem upd_left {R : Nat → List Nat} {i : Nat} (h : ∀ j, j < i → R j = []) {v7 v8 : Value} (hn : NextIs (upd R i []) v7 v8) (hi : i < 64) : left78 v7 v8 < 64 - i := by
  rcases hn with ⟨k, h1, h2, h3, rfl, rfl⟩ | ⟨_, rfl, rfl⟩
  · show 64 - (intOf (.int .i64 (k : Int))).toNat < 64 - i
    have : i < k := by
      rcases Nat.lt_trichotomy i k with q | q | q
      · exact q
      · subst q; exact absurd (upd_same R i []) h2
      · rw [upd_other R [] (by omega)] at h2; exact absurd (h k q) h2
    simp [intOf]
    omega
  · show 0 < 64 - i
    omega
/-- What a map of the ids has, the first q of l added. -/
def fq (f : Int → Option Bool) (l : List Nat) (q : Nat) : Int → Option Bool := fun k => if (l.take q).any (fun y => decide ((y : Int) = k)) then some true else f k
theorem fq_zero (f : Int → Option Bool) (l : List Nat) : fq f l 0 = f := by funext k; simp [fq]
theorem fq_new {f : Int → Option Bool} {l : List Nat} {q x : Nat} (hn : l.Nodup) (hx : l[q]? = some x) (hf : f (x : Int) = none) : fq f l q (x : Int) = none := by
  have h : ¬ (l.take q).any (fun y => decide ((y : Int) = (x : Int))) = true := by
    intro h
    obtain ⟨y, hy, e⟩ := List.any_eq_true.1 h
    simp at e
    have : y = x := by omega
    subst this
    obtain ⟨p, hp, e2⟩ := List.getElem_of_mem hy
    rw [List.getElem_take] at e2
    have hpq : p < q := by simp at hp; omega
    have hq := (List.getElem?_eq_some_iff.1 hx)
    have hpl : p < l.length := by have := hq.1; omega
    exact (List.pairwise_iff_getElem.1 hn p q hpl hq.1 hpq) (by rw [e2, hq.2])
  unfold fq
  rw [if_neg h, hf]
theorem fq_step {f : Int → Option Bool} {l : List Nat} {q x : Nat} (hx : l[q]? = some x) : (fun j => if j = (x : Int) then some true else fq f l q j) = fq f l (q + 1) := by
  funext j
  unfold fq
  rw [List.take_add_one, hx, Option.toList_some, List.any_append]
  by_cases e : j = (x : Int)
  · subst e; simp
  · have : decide ((x : Int) = j) = false := by simp; exact fun r => e r.symm
    simp [e, this]
theorem fq_out {f : Int → Option Bool} {l : List Nat} {q : Nat} {k : Int} (h : ∀ y ∈ l, (y : Int) ≠ k) : fq f l q k = f k := by
  unfold fq
  rw [if_neg]
  intro h2
  obtain ⟨y, hy, e⟩ := List.any_eq_true.1 h2
  simp at e
  exact h y (List.mem_of_mem_take hy) e
set_option maxRecDepth 100000 in
set_option maxHeartbeats 4000000 in
theorem main (A : Option Addr) (len cap : Nat) {W : World} (hops : IsOps W A len cap) (ht : TabW W) :
    Calls Tryd.prog 7 #[.slice A len cap] W fun e w' => e = .returned (.bool true) ∧ Below W.heap.size W w' := by
  have hlm : len ≤ 9223372036854775807 := by have := hops.2.1; have := hops.1; unfold maxLen at *; omega
  have hlc := hops.1
  have HOPS := Lib.hid hops
  have HT := Lib.hid ht
  clear hops ht
  go_enter Tryd.func7, Tryd.ntmps7
  go_wp2_with fail
  refine (New_T W).mono ?_
  rintro e w1 ⟨bP, bM, rfl, hW, hB, h1, h2⟩
  have HW := Lib.hid hW
  have HB := Lib.hid hB
  have HBK := Lib.hid (fun w' w'' (h : Below W.heap.size W w') (k : Kept (two bP bM) w' w'') => h.trans (k.below (B := W.heap.size) h.size (fun i hi hf => by rcases hf with rfl | rfl <;> omega)))
  have HGE := Lib.hid (And.intro h1 h2)
  clear hW hB h1 h2
  by_cases h100 : 100 < len
  · go_wp2_with fail
    refine (live_any _ (HT.out.below HB.out)).mono ?_
    rintro e w6 ⟨rfl, hb⟩
    have HB8 := Lib.hid (HB.out.trans (hb.mono HB.out.size))
    clear hb
    go_wp2
    go_ret
    exact ⟨rfl, HB8.out⟩
  · have t100 : decide ((100 : Int) < (len : Int)) = false := by simp; omega
    go_wp2_with fail
    go_loopw [4] (fun i wr => ∃ (j : Nat) (R : Nat → List Nat), j ≤ len ∧ i = .int .i64 (j : Int) ∧ Wh wr bP bM R ∧ tot R 64 ≤ j ∧ Below W.heap.size W wr) (fun i _ => len - (intOf i).toNat)
    case atStart => exact ⟨0, _, Nat.zero_le _, rfl, HW.out, by decide +kernel, HB.out⟩
    case round =>
      obtain ⟨j, R, hj, rfl, hI, hn, hL⟩ := hrel
      have HI := Lib.hid hI
      have HL := Lib.hid hL
      have HN := Lib.hid hn
      clear hI hL hn HW HB
      by_cases hlt : j < len
      · obtain ⟨b, off, rfl, hb, hall⟩ := HOPS.out.2.2 (by omega)
        obtain ⟨d, sl, k, ho⟩ := hall j hlt
        clear hall
        have c1 := (HL.out.cell (p := ⟨b, off + j * 3 + 1, none⟩) hb).trans ho.c1
        have c2 := (HL.out.cell (p := ⟨b, off + j * 3 + 2, none⟩) hb).trans ho.c2
        have HO := Lib.hid ho
        clear ho
        by_cases hok : 0 ≤ sl ∧ sl < 64 ∧ 0 ≤ k ∧ k ≤ 1048575
        · obtain ⟨g1, g2, g3, g4⟩ := hok
          obtain ⟨i, rfl⟩ := Int.eq_ofNat_of_zero_le g1
          obtain ⟨x, rfl⟩ := Int.eq_ofNat_of_zero_le g3
          have HC := Lib.hid (Add_T bP bM R wr.drew (HI.out.below (Below.refl _ _).drew) i x (by omega) (by omega) (by have := HN.out; omega))
          have HTT := Lib.hid (show tot (addR R i x) 64 ≤ j + 1 by have := addR_tot R i x (by omega); have := HN.out; omega)
          clear g1 g2 g3 g4
          go_wp2_with fail
          go_region_held3 (fun w' => w'.cell? ⟨b, off + j * 3 + 1, none⟩ = some (.int .i64 (i : Int)) ∧ w'.cell? ⟨b, off + j * 3 + 2, none⟩ = some (.int .i64 (x : Int))) (first | exact ⟨c1, c2⟩ | exact ⟨d1, d2⟩ | go_keep) (first | (go_at_call 15; refine HC.out.mono ?_; rintro e w2 ⟨rfl, hW, hK⟩; have HW2 := Lib.hid hW; have HL2 := Lib.hid (HBK.out _ _ HL.out.drew hK); have d1 := (HL2.out.cell (p := ⟨b, off + j * 3 + 1, none⟩) hb).trans HO.out.c1; have d2 := (HL2.out.cell (p := ⟨b, off + j * 3 + 2, none⟩) hb).trans HO.out.c2; clear hW hK HC))
          go_wp2
          go_roundw
          case rel => exact ⟨j + 1, _, by omega, by go_num, HW2.out, HTT.out, HL2.out⟩
          case measure => simp [intOf]; omega
        · have HC := Lib.hid (Add_no bP bM R wr.drew (HI.out.below (Below.refl _ _).drew) sl k hok)
          clear hok
          go_wp2_with fail
          go_region_held3 (fun w' => w'.cell? ⟨b, off + j * 3 + 1, none⟩ = some (.int .i64 sl) ∧ w'.cell? ⟨b, off + j * 3 + 2, none⟩ = some (.int .i64 k)) (first | exact ⟨c1, c2⟩ | go_keep) (first | (go_at_call 15; refine HC.out.mono ?_; rintro e w2 ⟨rfl, rfl⟩))
          go_wp2
          go_roundw
          case rel => exact ⟨j + 1, R, by omega, by go_num, HI.out.below (Below.refl _ _).drew, by have := HN.out; omega, HL.out.drew⟩
          case measure => simp [intOf]; omega
      · have HLN := Lib.hid (Len_T bP bM R wr HI.out)
        have hmm := @run_makeMap Tryd.prog
        go_wp2_with fail
        refine HLN.out.mono ?_
        rintro e w2 ⟨rfl, rfl⟩
        have hsz := HI.out.lt
        have HD0 := Lib.hid (show DInv W (wr.alloc (.map #[] 0)) bP bM wr.heap.size (tot R 64) R (fun _ => none) 0 from
          ⟨HI.out.below ((Below.refl _ _).alloc (Nat.le_refl _) _), IMap.made wr, ⟨HGE.out.1, HGE.out.2, HL.out.size⟩, ⟨by omega, by omega⟩, fun _ _ _ _ => rfl, by omega, HL.out.alloc HL.out.size _⟩)
        have hn : tot R 64 ≤ 100 := by have := HN.out; omega
        clear HLN HI HL HN hsz
        obtain ⟨n, hnn⟩ : ∃ n, tot R 64 = n := ⟨_, rfl⟩
        rw [hnn] at HD0 hn ⊢
        clear hnn
        obtain ⟨m, hm1, hm2, hm3⟩ := Next_T bP bM R _ HD0.out.wh 0 (HT.out.below HD0.out.lo) (by unfold I64; omega)
        have HNX := Lib.hid hm3
        have HNI := Lib.hid (next_is hm2)
        clear hm1 hm2 hm3
        generalize nextN [m] (0 : Int).toNat = q at *
        go_wp2_with fail
        refine HNX.out.mono ?_
        rintro e w2 ⟨rfl, hb⟩
        have HD1 := Lib.hid (show DInv W w2 bP bM wr.heap.size n R (fun _ => none) 0 from ⟨HD0.out.wh.below hb, HD0.out.mp.kept (F := fun _ => False) (Kept.of_below hb) id, HD0.out.ge, HD0.out.ne, HD0.out.fr, HD0.out.n, HD0.out.lo.trans (hb.mono HD0.out.lo.size)⟩)
        clear hb HD0 HNX
        generalize wr.heap.size = bG at *
        go_wp2_with fail
        go_loopw [7, 8] (fun v7 v8 wx => ∃ (R : Nat → List Nat) (f : Int → Option Bool) (g : Nat), DInv W wx bP bM bG n R f g ∧ NextIs R v7 v8) (fun v7 v8 _ => left78 v7 v8)
        case atStart => exact ⟨R, _, 0, HD1.out, HNI.out⟩
        case round =>
          clear HD1 HNI
          obtain ⟨R, f, g, hD, hN⟩ := hrel
          have HD := Lib.hid hD
          rcases hN with ⟨i, hi, hne, hfirst, rfl, rfl⟩ | ⟨hall, rfl, rfl⟩
          · have HNE := Lib.hid hne
            have HFI := Lib.hid hfirst
            have hRn : tot R 64 ≤ 100 := by have := hD.n; omega
            have HRO := Lib.hid (Row_T bP bM R wr hD.wh i hi (by omega))
            have hrl : (R i).length ≤ 100 := Nat.le_trans (row_le R i 64 hi) hRn
            have hr0 : 0 < (R i).length := List.length_pos_iff.2 hne
            clear hne hfirst hD
            go_wp2_with fail
            refine HRO.out.mono ?_
            rintro e w3 ⟨v3, rfl, hO, hb⟩
            have HD3 := Lib.hid (show DInv W w3 bP bM bG n R f g from ⟨HD.out.wh.below hb, HD.out.mp.kept (F := fun _ => False) (Kept.of_below hb) id, HD.out.ge, HD.out.ne, HD.out.fr, HD.out.n, HD.out.lo.trans (hb.mono HD.out.lo.size)⟩)
            have HO3 := Lib.hid hO
            have HZ3 := Lib.hid HD.out.wh.lt
            have HG3 := Lib.hid HD.out.mp.lt
            clear hO hb HRO
            have HEM := Lib.hid (Empty_T bP bM R w3 HD3.out.wh i hi (by omega))
            go_wp2_with fail
            refine HEM.out.mono ?_
            rintro e w4 ⟨v4, rfl, hO4, hW4, hK4⟩
            have hO34 := HO3.out.kept hK4 (fun b hb => by have := HO3.out.ge hb; have := HZ3.out; rintro (q | q) <;> omega)
            obtain ⟨A3, cap3, rfl, hI3⟩ := hO34.ints
            obtain ⟨A4, cap4, rfl, hI4⟩ := hO4.ints
            have HNB := Lib.hid (show ∀ a, A4 = some a → a.block ≠ bP ∧ a.block ≠ bM ∧ a.block ≠ bG from fun a e => by
              have h1 := hO4.ge (b := a.block) (by rw [e]; rfl)
              have h2 := HD3.out.wh.lt
              have h3 := HD3.out.mp.lt
              exact ⟨by omega, by omega, by omega⟩)
            have HM4 := Lib.hid (HD3.out.mp.kept hK4 (fun hf => by have := HD3.out.ne; rcases hf with q | q; exact this.1 q; exact this.2 q))
            have HW4 := Lib.hid hW4
            have HL4 := Lib.hid (HBK.out _ _ HD3.out.lo hK4)
            have HIY := Lib.hid (Ints_yes A3 A4 cap3 cap4 ((R i).map fun (x : Nat) => (x : Int)) w4 hI3 hI4 (by rw [List.length_map]; omega))
            have HI4 := Lib.hid hI4
            have HD5 := Lib.hid (And.intro HD3.out.ge (And.intro HD3.out.ne (And.intro HD3.out.fr HD3.out.n)))
            have HND := Lib.hid (HD3.out.wh.nd i hi)
            have HAP := Lib.hid HD3.out.wh.ap
            have HLE := Lib.hid (HD3.out.wh.le i hi)
            rw [List.length_map] at HIY
            clear hO4 hW4 hK4 hO34 hI3 hI4 HEM HO3 HD HD3
            obtain ⟨l, hl⟩ : ∃ l, R i = l := ⟨_, rfl⟩
            have HLI := Lib.hid hl
            rw [hl] at hrl hr0 HIY HI4 HND HLE ⊢
            clear hl
            obtain ⟨ln, hln⟩ : ∃ ln, l.length = ln := ⟨_, rfl⟩
            have HLN := Lib.hid hln
            rw [hln] at hrl hr0 HIY ⊢
            have t0 : ((ln : Int) == 0) = false := by simp; omega
            have c4 := HI4.out.1
            rw [List.length_map, hln] at c4
            clear hln
            go_wp2_with fail
            refine HIY.out.mono ?_
            rintro e w5 ⟨rfl, m5, rfl⟩
            have HW5 := Lib.hid (show Wh (w4.drewN m5) bP bM (upd R i []) from HW4.out.below ⟨rfl, rfl, rfl, Nat.le_refl _, fun _ _ => rfl⟩)
            have HM5 := Lib.hid (show IMap bE (w4.drewN m5) bG f g from HM4.out.block rfl)
            have HL5 := Lib.hid (show Below W.heap.size W (w4.drewN m5) from HL4.out.trans ⟨rfl, rfl, rfl, Nat.le_refl _, fun _ _ => rfl⟩)
            have HI5 := Lib.hid (show IntsAt (w4.drewN m5) A4 cap4 (l.map fun (x : Nat) => (x : Int)) from HI4.out)
            clear HW4 HM4 HL4 HI4 HIY
            generalize w4.drewN m5 = w5 at *
            go_wp2_with fail
            go_loopw [11] (fun i11 wx => ∃ q : Nat, q ≤ ln ∧ i11 = .int .i64 (q : Int) ∧ Wh wx bP bM (upd R i []) ∧ IMap bE wx bG (fq f l q) (g + q) ∧ Below W.heap.size W wx ∧ IntsAt wx A4 cap4 (l.map fun (x : Nat) => (x : Int))) (fun i11 _ => ln - (intOf i11).toNat)
            case atStart => exact ⟨0, Nat.zero_le _, rfl, HW5.out, by rw [fq_zero]; exact HM5.out, HL5.out, HI5.out⟩
            case round =>
              clear HW5 HM5 HL5 HI5
              obtain ⟨q, hq, rfl, hW, hM, hL, hI⟩ := hrel
              have HW := Lib.hid hW
              have HM := Lib.hid hM
              have HL := Lib.hid hL
              have HI := Lib.hid hI
              clear hW hM hL hI
              by_cases hql : q < ln
              · obtain ⟨x, hx⟩ : ∃ x, l[q]? = some x := ⟨_, List.getElem?_eq_getElem (by rw [HLN.out]; exact hql)⟩
                obtain ⟨g4, rfl, hcell⟩ := HI.out.2 (by rw [List.length_map, HLN.out]; omega)
                have d0 := hcell q (x : Int) (by rw [List.getElem?_map, hx]; rfl)
                have hg4 := block_lt_of_cell d0
                have HX := Lib.hid hx
                have KX := Lib.hid (show I64 (x : Int) by have := HLE.out x (List.mem_of_getElem? hx); unfold I64; omega)
                have HNO := Lib.hid (show ∀ a, a < 64 → ∀ y : Nat, y ∈ upd R i [] a → (y : Int) ≠ (x : Int) from fun a ha y hy e => by
                  have hyx : y = x := by omega
                  subst hyx
                  by_cases qa : a = i
                  · subst qa; rw [upd_same] at hy; cases hy
                  · rw [upd_other R _ qa] at hy
                    exact qa (HAP.out a i y ha hi hy (by rw [HLI.out]; exact List.mem_of_getElem? hx)))
                have HFQ := Lib.hid (show fq f l q (x : Int) = none from fq_new HND.out hx (HD5.out.2.2.1 i hi x (by rw [HLI.out]; exact List.mem_of_getElem? hx)))
                have HWH := Lib.hid (Where_no bP bM (upd R i []) wr HW.out x KX.out HNO.out)
                clear hx hcell
                go_wp2_with fail
                refine HWH.out.mono ?_
                rintro e w6 ⟨rfl, hb6⟩
                have d1 := (hb6.cell (p := ⟨g4, q, none⟩) hg4).trans d0
                have hg6 : g4 < w6.heap.size := Nat.lt_of_lt_of_le hg4 hb6.size
                have HW6 := Lib.hid (HW.out.below hb6)
                have HM6 := Lib.hid (HM.out.kept (F := fun _ => False) (Kept.of_below hb6) id)
                have HL6 := Lib.hid (HL.out.trans (hb6.mono HL.out.size))
                have HI6 := Lib.hid (HI.out.below hb6)
                clear hb6 d0 HW HM HL HI HWH
                go_wp2_with (first | (at_lookup; refine wpList_mlook bE w6 rfl _ _ 48 4 rfl Tryd.underlying48 (zeroB _) bG _ _ rfl HM6.out x rfl KX.out false (by rw [HFQ.out]; rfl) (.bool false) rfl ?_) | (at_mapUpdate; refine wpList_mstore bE w6 rfl _ _ _ 48 4 rfl Tryd.underlying48 bG _ _ rfl HM6.out (by have := HD5.out.2.2.2; unfold maxLen; omega) x rfl KX.out true rfl (g + (q + 1)) (by rw [HFQ.out]; rfl) ?_))
                intro w7 hm7 hk7 hz7
                rw [fq_step HX.out] at hm7
                have HM7 := Lib.hid hm7
                have HNB2 := Lib.hid (HNB.out _ rfl)
                have HW7 := Lib.hid (HW6.out.kept hk7 (fun e => HD5.out.2.1.1 e.symm) (fun e => HD5.out.2.1.2 e.symm))
                have HL7 := Lib.hid (HL6.out.trans (hk7.below HL6.out.size (fun y hy e => by have := HD5.out.1.2.2; omega)))
                have HI7 := Lib.hid (HI6.out.kept hk7 (fun a e => by cases e; exact HNB2.out.2.2))
                clear hm7 hk7 hz7 d1 HW6 HM6 HL6 HI6
                go_wp2
                go_roundw
                case rel => exact ⟨q + 1, by omega, by go_num, HW7.out, HM7.out, HL7.out, HI7.out⟩
                case measure => simp [intOf]; omega
              · obtain rfl : q = ln := by omega
                have hmt := HM.out
                have HDN := Lib.hid (show DInv W wr bP bM bG n (upd R i []) (fq f l q) (g + q) from by
                  refine ⟨HW.out, hmt, HD5.out.1, HD5.out.2.1, fun a ha y hy => ?_, ?_, HL.out⟩
                  · by_cases qa : a = i
                    · subst qa; rw [upd_same] at hy; cases hy
                    · rw [upd_other R _ qa] at hy
                      rw [fq_out (fun z hz e => qa (HAP.out a i y ha hi hy (by rw [HLI.out]; exact cast_mem e hz)))]
                      exact HD5.out.2.2.1 a ha y hy
                  · have t := tot_upd R i [] 64 hi
                    rw [HLI.out, HLN.out] at t
                    simp at t
                    have := HD5.out.2.2.2
                    omega)
                obtain ⟨m, hm1, hm2, hm3⟩ := Next_T bP bM (upd R i []) wr HW.out 0 (HT.out.below HL.out) (by unfold I64; omega)
                have HNX := Lib.hid hm3
                have hnis := next_is hm2
                have HMS := Lib.hid (upd_left HFI.out hnis hi)
                have HNI := Lib.hid hnis
                clear hm1 hm2 hm3 hmt hnis HW HM HL HI
                generalize nextN [m] (0 : Int).toNat = z at *
                go_wp2_with fail
                refine HNX.out.mono ?_
                rintro e w8 ⟨rfl, hb8⟩
                have HD8 := Lib.hid (show DInv W w8 bP bM bG n (upd R i []) (fq f l q) (g + q) from ⟨HDN.out.wh.below hb8, HDN.out.mp.kept (F := fun _ => False) (Kept.of_below hb8) id, HDN.out.ge, HDN.out.ne, HDN.out.fr, HDN.out.n, HDN.out.lo.trans (hb8.mono HDN.out.lo.size)⟩)
                clear hb8 HDN HNX
                go_wp2
                go_roundw
                case rel => exact ⟨_, _, _, HD8.out, HNI.out⟩
                case measure => show left78 _ _ < 64 - (intOf (.int .i64 (i : Int))).toNat; simpa [intOf] using HMS.out
          · have hT0 : tot R 64 = 0 := by
              have g : ∀ n, n ≤ 64 → tot R n = 0 := by
                intro n
                induction n with
                | zero => intro _; rfl
                | succ n ih => intro h; rw [tot, ih (by omega), hall n (by omega)]; rfl
              exact g 64 (Nat.le_refl _)
            have hgn : g = n := by have := hD.n; omega
            subst hgn
            have HLN := Lib.hid (Len_T bP bM R wr hD.wh)
            rw [hT0] at HLN
            obtain ⟨m, hm1, hm2, hm3⟩ := Mask_T bP bM R wr hD.wh
            obtain rfl : m = 0 := mask_is hm1 (by decide) hm2 (fun j hj => by rw [hall j hj]; simp)
            have HMK := Lib.hid hm3
            clear hm1 hm2 hm3 hall hT0 hD
            go_wp2_with (at_len; refine wpList_mlen bE wr rfl _ 48 4 rfl Tryd.underlying48 bG g f rfl HD.out.mp ?_)
            refine HLN.out.mono ?_
            rintro e w3 ⟨rfl, rfl⟩
            go_wp2_with fail
            refine HMK.out.mono ?_
            rintro e w3 ⟨rfl, rfl⟩
            go_wp2_with fail
            refine (live_any _ (HT.out.below HD.out.lo)).mono ?_
            rintro e w6 ⟨rfl, hb⟩
            have HB8 := Lib.hid (HD.out.lo.trans (hb.mono HD.out.lo.size))
            clear hb
            go_wp2
            go_ret
            exact ⟨rfl, HB8.out⟩
theorem walk (A : Option Addr) (len cap : Nat) {W : World} (hops : IsOps W A len cap) (ht : TabW W) :
    Calls Tryd.prog 7 #[.slice A len cap] W fun e w' => e = .returned (.bool true) ∧ Below W.heap.size W w' := main A len cap hops ht

theorem own : ownKnob Tryd.prog.godebug = none := by kernel_rfl
theorem laidOut : laidOutB Tryd.prog = true := by kernel_rfl
theorem contract (H : Type) (enc : TypeId × Value → H) (W : World) (base : Nat) (args : Array Value) (ds gs : List (DataW H)) (before : List MemPlace)
    (hval : ∀ (j : Nat) t v, Tryd.f7.params[j]? = some t → args[j]? = some v → Value.okWide Tryd.prog W .any base t v)
    (hW : DataW.Whole enc Tryd.prog Tryd.f7.params.toList Rows.wheelDrainsSpec.vars false W args.toList ds gs before) (hL : laidMetH Tryd.prog Rows.wheelDrainsRow.laid W) :
    Calls Tryd.prog 7 args W fun e W' => ∃ v, e = .returned v ∧ Rows.wheelDrainsSpec.post enc Tryd.prog Tryd.f7 false true false false W args v W' := by
  have hW' := hW
  obtain ⟨p, q, hA0, hV, rfl, hfz, hnd⟩ := hW
  have hA : DataW.TrodAll enc Tryd.prog W 0 (fun _ => true) true Tryd.f7.params.toList args.toList ds p := hA0
  rw [Tryd.params7] at hA hval
  obtain ⟨v0, vs0, d0, ds0, p0, q0, hargs, rfl, rfl, h0, r0⟩ := trodAll_cons hA
  obtain ⟨rfl, rfl, rfl⟩ := trodAll_nil r0
  obtain rfl : args = #[v0] := by cases args; simp_all
  obtain ⟨rfl, rfl⟩ := trodVars_none hV
  have k0 := h0
  have lt0 : ∀ x ∈ p0, x.block < W.heap.size := by obtain ⟨m, hm⟩ := k0; exact DataW.trod_lt m _ _ _ hm
  obtain ⟨a0, len0, cap0, rfl, w0⟩ := open_ops (hval 0 22 v0 rfl rfl) h0
  clear hA0
  refine (walk a0 len0 cap0 w0 (tabW_of hL)).mono fun e W' ⟨he, bel⟩ => ?_
  subst he
  exact ⟨_, rfl, _, _, _, [], _, [], hW', trodAll_mk1 (shut_bool Tryd.underlying4 _), (trodAll_cons_mk (Below.trod laidOut (by kernel_rfl) (of_decide_eq_true (by kernel_rfl)) k0 bel lt0) trodAll_mk0), rfl, bel.frame _, fun h => by cases h⟩

theorem laid_met (os : Os) : laidMet Tryd.prog Rows.wheelDrainsRow.laid ((laidWorld os).forCall (fun _ _ => 0) ⟨#[], #[.slice none 0 0], []⟩).memory :=
  laidMet_of_run' 8 (by kernel_rfl) (by kernel_rfl)
theorem reads (os : Os) {H : Type} (enc : TypeId × Value → H) : ∃ places, DataW.whole enc Tryd.prog ((laidWorld os).forCall (fun _ _ => 0) ⟨#[], #[.slice none 0 0], []⟩).memory Tryd.f7.params.toList Rows.wheelDrainsSpec.vars false (#[.slice none 0 0] : Array Value).toList 8 = some ([.nil], [], places) :=
  ⟨[], by kernel_rfl⟩

set_option maxRecDepth 100000 in
theorem lifted (os : Os) (started : os.Started) (H : Type) (enc : TypeId × Value → H) (F : Stop.Interp) :
    ReturnsInHanded {} Tryd.checked os 7 .any ((OpenSpec.ofChange Rows.wheelDrainsSpec).preRow enc Tryd.prog Tryd.f7 Rows.wheelDrainsRow.domain false Rows.wheelDrainsRow.laid) (((OpenSpec.ofChange Rows.wheelDrainsSpec).at F).post enc Tryd.prog Tryd.f7 false true false false) := by
  obtain ⟨places, hx⟩ := reads os enc
  refine returnsInHanded_of_row (C := Tryd.checked) (s := OpenSpec.ofChange Rows.wheelDrainsSpec) own started (by kernel_rfl) Tryd.func7
    (witness_row_at (enc := enc) (C := Tryd.checked) false (laidWorld os) #[.slice none 0 0] rfl (by kernel_rfl) (by kernel_rfl) (by kernel_rfl)
      (OpenSpec.preRow_of_cond 8 hx (by kernel_rfl) (fun k hk => by cases hk) (by kernel_rfl) (laid_met os))) ?_
  intro W base args ds gs before hval hW _ _ _ hL _ _
  exact contract H enc W base args ds gs before hval hW hL

theorem said : Rows.WheelDrainsSaid :=
  OpenClaim.holds_of_cond 7 Tryd.f7 rfl rfl rfl rfl rfl rfl rfl ⟨rfl, rfl, rfl, rfl, rfl⟩ rfl rfl rfl rfl rfl (by kernel_rfl) Tryd.func7 (by kernel_rfl)
    (of_decide_eq_true (by kernel_rfl)) (by unfold Func.isWrapper; first | (rw [if_pos (by decide +kernel)]; kernel_rfl) | (rw [if_neg (by decide +kernel)]; exact ⟨rfl, rfl⟩))
    (fun os started H enc _ F => by rw [OpenClaim.pre_eq_preRow]; exact lifted os started H enc F)
theorem plain (f : FuncId) (fn : Func) (hf : Tryd.pinned.checked.prog.funcNamed Rows.wheelDrainsRow.func = some f) (hfn : Tryd.pinned.checked.prog.funcs[f]? = some fn) :
    false = Tryd.pinned.checked.prog.looks [] ∧ ∀ (j : Nat) t, fn.params[j]? = some t → Tryd.pinned.checked.prog.wantsStandIn t = false := by
  obtain rfl : f = 7 := Option.some.inj ((show Tryd.prog.funcNamed Rows.wheelDrainsRow.func = some 7 by kernel_rfl).symm.trans hf) |>.symm
  obtain rfl : fn = Tryd.f7 := (Option.some.inj (Tryd.func7.symm.trans hfn)).symm
  refine ⟨by kernel_rfl, fun j t ht => ?_⟩
  rw [Tryd.params7] at ht
  have hm := Array.mem_of_getElem? ht
  simp only [List.mem_toArray, List.mem_cons, List.not_mem_nil, or_false] at hm
  rcases hm with rfl
  · exact (show Tryd.prog.wantsStandIn 22 = false by kernel_rfl)
theorem card : Rows.WheelDrainsCardSaid :=
  Claim7.holds_tied_plain_at .later [] _ _ _ _ said (fun _ h => by cases h) (by kernel_rfl) (fun _ h => by cases h) wheelDrains_row_tie rfl ⟨rfl, rfl⟩ (by kernel_rfl) rfl plain (by kernel_rfl)
end Go.Proofs.YtknehglahdkafaaDoor.wheelDrains
namespace Go.Proofs.YtknehglahdkafaaDoor
theorem wheelDrains_proved : Rows.WheelDrainsCardSaid := wheelDrains.card
end Go.Proofs.YtknehglahdkafaaDoor

