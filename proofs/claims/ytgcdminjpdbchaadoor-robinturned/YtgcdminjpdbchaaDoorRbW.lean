/- The document's Well, of a table that is well. -/
import Derived.Test.YtgcdminjpdbchaaDoorRbM5
import Derived.Test.YtgcdminjpdbchaaDoorRbF
namespace Go.Proofs.YtgcdminjpdbchaaDoor
open Go.ChangeShapes Go.WideShapes Go.ChangeAt Go.RowKit
set_option linter.unusedVariables false

def prv (n i : Nat) : Nat := if i = 0 then n - 1 else i - 1
theorem prv_lt {n i : Nat} (h : i < n) : prv n i < n := by unfold prv; split <;> omega
theorem nx_prv {n i : Nat} (h2 : 2 ≤ n) (h : i < n) : nx n (prv n i) = i := by unfold nx prv; split <;> split <;> omega
theorem modP (n i : Nat) (h : i < n) (h2 : 2 ≤ n) : (((i : Int) + (n : Int) - 1).tmod (n : Int)) = ((prv n i : Nat) : Int) := by
  rw [Int.tmod_eq_emod_of_nonneg (by omega)]
  unfold prv
  split
  · rename_i e
    subst e
    rw [Int.emod_eq_of_lt (by omega) (by omega)]; omega
  · rw [show (i : Int) + (n : Int) - 1 = ((i : Int) - 1) + (n : Int) by omega, Int.add_emod_right, Int.emod_eq_of_lt (by omega) (by omega)]; omega
theorem modH (n h d : Nat) (hh : h < n) (hd : d < n) : (((h : Int) + (d : Int)).tmod (n : Int)) = ((wr_ n (h + d) : Nat) : Int) := by
  rw [Int.tmod_eq_emod_of_nonneg (by omega)]
  unfold wr_
  split
  · rw [Int.emod_eq_of_lt (by omega) (by omega)]; omega
  · rw [show (h : Int) + (d : Int) = ((h : Int) + (d : Int) - (n : Int)) + (n : Int) by omega, Int.add_emod_right, Int.emod_eq_of_lt (by omega) (by omega)]; omega
/-- Slots that lie in a row. -/
structure SlC (w : World) (g n : Nat) (s : List RS) : Prop where
  lt : g < w.heap.size
  at_ : ∀ i, i < n → w.cell? ⟨g, i * 4, none⟩ = some (.bool (atS s i).u) ∧ w.cell? ⟨g, i * 4 + 1, none⟩ = some (.string (atS s i).k) ∧ w.cell? ⟨g, i * 4 + 2, none⟩ = some (.int .i64 (atS s i).v) ∧ w.cell? ⟨g, i * 4 + 3, none⟩ = some (.int .i64 ((atS s i).d : Int))
theorem SlC.below {w w' : World} {g n : Nat} {s : List RS} (h : SlC w g n s) (hb : Below w.heap.size w w') : SlC w' g n s :=
  ⟨Nat.lt_of_lt_of_le h.lt hb.size, fun i hi => by
    have := h.at_ i hi
    have hl := h.lt
    exact ⟨(hb.cell (p := ⟨g, _, none⟩) hl).trans this.1, (hb.cell (p := ⟨g, _, none⟩) hl).trans this.2.1, (hb.cell (p := ⟨g, _, none⟩) hl).trans this.2.2.1, (hb.cell (p := ⟨g, _, none⟩) hl).trans this.2.2.2⟩⟩
def cntTo (s : List RS) (i : Nat) : Nat := ((s.take i).filter fun x => x.u).length
theorem cntTo_yes {s : List RS} {i : Nat} (h : i < s.length) (hu : (atS s i).u = true) : cntTo s (i + 1) = cntTo s i + 1 := by
  unfold cntTo
  rw [List.take_add_one, atS_get h, List.filter_append, List.length_append]
  simp [hu]
theorem cntTo_no {s : List RS} {i : Nat} (h : i < s.length) (hu : (atS s i).u = false) : cntTo s (i + 1) = cntTo s i := by
  unfold cntTo
  rw [List.take_add_one, atS_get h, List.filter_append, List.length_append]
  simp [hu]
theorem cntTo_all (s : List RS) : cntTo s s.length = cnt s := by unfold cntTo cnt; rw [List.take_length]
theorem cntTo_le (s : List RS) (i : Nat) : cntTo s i ≤ i := by
  unfold cntTo
  exact Nat.le_trans (List.length_filter_le _ _) (List.length_take_le _ _)
/-- What Well is told of: a map, and the slots of a table with just its keys. -/
structure WI (B : Nat) (bM : Nat) (v : Value) (l : List Pr) (M : ByteArray → Option Int) (seed bits n : Nat) (s : List RS) (g : Nat) (w : World) : Prop where
  m : Mp B w bM v l n
  lm : LM l M
  c : SlC w g n s
  we : WellT (fun k => if k.size ≤ maxLen then hmF seed bits k else 0) n s
  ha : ∀ k v, HasK n s k v ↔ M k = some v
  cn : cnt s = l.length
  ks : ∀ i, i < n → (atS s i).u = true → (atS s i).k.size ≤ 33
theorem WI.below {B bM : Nat} {v : Value} {l : List Pr} {M : ByteArray → Option Int} {seed bits n : Nat} {s : List RS} {g : Nat} {w w' : World} (h : WI B bM v l M seed bits n s g w) (hb : Below w.heap.size w w') : WI B bM v l M seed bits n s g w' := ⟨h.m.below hb, h.lm, h.c.below hb, h.we, h.ha, h.cn, h.ks⟩
set_option maxRecDepth 100000 in
set_option maxHeartbeats 0 in
theorem Well_yes (B bM : Nat) (v : Value) (l : List Pr) (M : ByteArray → Option Int) (seed bits n : Nat) (s : List RS) (g gc : Nat) (w : World) (h : WI B bM v l M seed bits n s g w) (hs : U seed) (b1 : 1 ≤ bits) (b8 : bits ≤ 8) (hn : n = 2 ^ bits) (hgc : n ≤ gc) (hgm : gc ≤ maxLen) :
    Calls Tryd.prog 19 #[.pointer (some ⟨bM, 0, none⟩), .int .u64 (seed : Int), .int .i64 (bits : Int), .slice (some ⟨g, 0, none⟩) n gc] w fun e w' => e = .returned (.bool true) ∧ Below w.heap.size w w' := by
  have hn256 : n ≤ 256 := by rw [hn]; exact Nat.le_trans (Nat.pow_le_pow_right (by decide) b8) (by decide)
  have hn2 : 2 ≤ n := h.we.n2
  have hll : l.length ≤ 1000 := by have := h.we.len; have := cnt_le s; have := h.cn; omega
  have HW := Lib.hid h
  have HSD := Lib.hid hs
  have HNN := Lib.hid hn
  have HCW := Lib.hid (fun w' (hb : Below w.heap.size w w') => show w'.cell? ⟨bM, 0, none⟩ = some v ∧ w'.cell? ⟨bM, 1, none⟩ = some (.int .i64 (n : Int)) from ⟨(h.m.below hb).h.cell 0, (h.m.below hb).h.cell 1⟩)
  have HLN := len_own h.m.o
  have hsl := h.we.len
  have HL := Lib.hid hsl
  have HCN := Lib.hid h.cn
  obtain ⟨c0, c1⟩ := HCW.out w (Below.refl _ _)
  unfold maxLen at hgm
  clear h hs hn hsl
  go_enter Tryd.func19, Tryd.ntmps19
  go_wp2_with fail
  go_loopw [10, 11] (fun u i wr => ∃ j : Nat, j ≤ n ∧ u = .int .i64 ((cntTo s j : Nat) : Int) ∧ i = .int .i64 (j : Int) ∧ Hid (Below w.heap.size w wr)) (fun _ i _ => n - (intOf i).toNat)
  case atStart => exact ⟨0, Nat.zero_le _, rfl, rfl, Below.refl _ _⟩
  case round =>
    obtain ⟨j, hj, rfl, rfl, HB⟩ := hrel
    clear c0 c1
    obtain ⟨c0, c1⟩ := HCW.out wr HB.out
    by_cases hlt : j < n
    · have HWr := Lib.hid (HW.out.below HB.out)
      obtain ⟨x0, x1, x2, x3⟩ := HWr.out.c.at_ j hlt
      have hgl := HWr.out.c.lt
      have hct := cntTo_le s j
      cases hu : (atS s j).u with
      | false =>
        have hz := HWr.out.we.zero j hlt hu
        rw [hz] at x0 x1 x2 x3
        have HN := Lib.hid (cntTo_no (by rw [HL.out]; exact hlt) hu)
        replace x0 : wr.cell? ⟨g, j * 4, none⟩ = some (.bool false) := x0
        replace x1 : wr.cell? ⟨g, j * 4 + 1, none⟩ = some (.string ⟨#[]⟩) := x1
        replace x2 : wr.cell? ⟨g, j * 4 + 2, none⟩ = some (.int .i64 0) := x2
        replace x3 : wr.cell? ⟨g, j * 4 + 3, none⟩ = some (.int .i64 0) := x3
        clear hz hu
        go_wp2_with fail
        go_roundw
        case rel => exact ⟨j + 1, by omega, by rw [HN.out], by go_num, HB⟩
        case measure => simp [intOf]; omega
      | true =>
        rw [hu] at x0
        have HN := Lib.hid (cntTo_yes (by rw [HL.out]; exact hlt) hu)
        have hks := HWr.out.ks j hlt hu
        obtain ⟨hhome, hd⟩ := HWr.out.we.home j hlt hu
        have hMk := (HWr.out.ha _ _).1 ⟨j, hlt, hu, rfl, rfl⟩
        obtain ⟨k, ek⟩ : ∃ k, (atS s j).k = k := ⟨_, rfl⟩
        obtain ⟨y, ey⟩ : ∃ y, (atS s j).v = y := ⟨_, rfl⟩
        obtain ⟨d, ed⟩ : ∃ d, (atS s j).d = d := ⟨_, rfl⟩
        rw [ek] at x1 hks hhome hMk
        rw [ey] at x2 hMk
        rw [ed] at x3 hhome hd
        have hkm : k.size ≤ maxLen := by unfold maxLen; omega
        simp only [hkm, if_true] at hhome
        have HMK := Lib.hid hMk
        have HKM := Lib.hid hkm
        have HDD := Lib.hid ed
        have HKK := Lib.hid ek
        have HU := Lib.hid hu
        have ey' := ey
        have hh := hmF_lt HSD.out b8 HNN.out k hkm
        have hmod := modH n (hmF seed bits k) d hh hd
        rw [hhome] at hmod
        have HG := Lib.hid (rGet_any B wr bM v l n M k hll HWr.out.m HWr.out.lm)
        clear hkm hMk ek ey ed hu hhome
        go_wp2_with fail
        refine HG.out.mono ?_
        rintro e w3 ⟨rfl, m, rfl⟩
        rw [HMK.out]
        have HB3 := Lib.hid (below_drewN HB.out m)
        clear x0 x1 x2 x3 c0 c1 HG HWr
        generalize wr.drewN m = wq at HB3 ⊢
        have HWr := Lib.hid (HW.out.below HB3.out)
        obtain ⟨x0, x1, x2, x3⟩ := HWr.out.c.at_ j hlt
        rw [HU.out] at x0
        rw [HKK.out] at x1
        rw [ey'] at x2
        rw [HDD.out] at x3
        have HS := Lib.hid (rSum_any _ seed k wq rfl HKM.out HSD.out)
        have HH := Lib.hid (rHomeK _ seed bits k wq rfl (sumN_u HSD.out (key_u HKM.out)) b1 b8 HKM.out)
        go_wp2_with fail
        refine HS.out.mono ?_
        rintro e w4 ⟨rfl, rfl⟩
        go_wp2_with fail
        refine HH.out.mono ?_
        rintro e w4 ⟨rfl, rfl⟩
        clear HS HH
        generalize hmF seed bits k = h at hh hmod ⊢
        have e1 : (y != y) = false := by simp
        have e2 : decide ((d : Int) < 0) = false := decide_eq_false (by omega)
        have e3 : ¬ (d : Int) < 0 := by omega
        have e4 : decide ((n : Int) ≤ (d : Int)) = false := decide_eq_false (by omega)
        have e5 : ¬ (n : Int) ≤ (d : Int) := by omega
        have n0 : ¬ (n : Int) = 0 := by omega
        have n1 : ((n : Int) == 0) = false := by simp; omega
        have hmp := modP n j hlt hn2
        obtain ⟨i, hi⟩ : ∃ i, prv n j = i := ⟨_, rfl⟩
        have hin : i < n := by rw [← hi]; exact prv_lt hlt
        have hnp := nx_prv hn2 hlt
        rw [hi] at hmp hnp
        obtain ⟨z0, z1, z2, z3⟩ := HWr.out.c.at_ i hin
        clear hi
        have HQ := Lib.hid (HB3.out.alloc HB3.out.size (.cells #[.bool (atS s i).u, .string (atS s i).k, .int .i64 (atS s i).v, .int .i64 ((atS s i).d : Int)] 52))
        have HPR := Lib.hid (fun (h0 : 0 < d) => HWr.out.we.ahead i hin (by rw [hnp]; exact HU.out) (by rw [hnp, HDD.out]; exact h0))
        rw [hnp, HDD.out] at HPR
        obtain ⟨ui, hui⟩ : ∃ u, (atS s i).u = u := ⟨_, rfl⟩
        obtain ⟨di, hdi⟩ : ∃ d, (atS s i).d = d := ⟨_, rfl⟩
        rw [hui, hdi] at HPR
        rw [hui, hdi] at HQ
        rw [hui] at z0
        rw [hdi] at z3
        generalize (atS s i).k = ki at z1 HQ
        generalize (atS s i).v = vi at z2 HQ
        have g0 : d = 0 ∨ (0 < d ∧ ui = true ∧ d ≤ di + 1) := by
          by_cases q : d = 0
          · exact .inl q
          · have := HPR.out (by omega)
            exact .inr ⟨by omega, this.1, this.2⟩
        have HKJ := Lib.hid (fun q (hq : q < j) (hu : (atS s q).u = true) => show (atS s q).k ≠ k from fun e => by
          have := HWr.out.we.nd q j (by omega) hlt hu HU.out (e.trans HKK.out.symm)
          omega)
        clear hui hdi HPR hnp
        have HM9 := Lib.hid (Has.made wq 52 [.bool ui, .string ki, .int .i64 vi, .int .i64 (di : Int)])
        have a0 := HM9.out.cell 0
        have a3 := HM9.out.cell 3
        have ax := ((HWr.out.c.below ((Below.refl wq.heap.size wq).alloc (Nat.le_refl _) (.cells [Value.bool ui, .string ki, .int .i64 vi, .int .i64 (di : Int)].toArray 52))).at_ j hlt).2.2.2
        rw [HDD.out] at ax
        have HLT := Lib.hid HWr.out.c.lt
        replace a0 : (wq.alloc (.cells #[.bool ui, .string ki, .int .i64 vi, .int .i64 (di : Int)] 52)).cell? ⟨wq.heap.size, 0, none⟩ = some (.bool ui) := a0
        replace a3 : (wq.alloc (.cells #[.bool ui, .string ki, .int .i64 vi, .int .i64 (di : Int)] 52)).cell? ⟨wq.heap.size, 3, none⟩ = some (.int .i64 (di : Int)) := a3
        replace ax : (wq.alloc (.cells #[.bool ui, .string ki, .int .i64 vi, .int .i64 (di : Int)] 52)).cell? ⟨g, j * 4 + 3, none⟩ = some (.int .i64 (d : Int)) := ax
        have nh1 : ¬ g = wq.heap.size := by have := HLT.out; omega
        have hg9 : g < (wq.alloc (.cells #[.bool ui, .string ki, .int .i64 vi, .int .i64 (di : Int)] 52)).heap.size := by have := HLT.out; simp; omega
        clear HM9
        go_wp2_with fail
        generalize wq.alloc (.cells #[.bool ui, .string ki, .int .i64 vi, .int .i64 (di : Int)] 52) = WX at a0 a3 ax HQ hg9 ⊢
        rcases g0 with rfl | ⟨g1, rfl, g2⟩
        · go_quiet (fail)
          have HQX := Lib.hid (below_drewN HQ.out nq)
          clear a0 a3 ax nh1 hg9 z0 z1 z2 z3 x0 x1 x2 x3 hmod hmp e1 e2 e3 e4 e5 HWr
          go_wp2_with fail
          go_loopw [16] (fun c wy => ∃ q : Nat, q ≤ j ∧ c = .int .i64 (q : Int) ∧ Hid (Below w.heap.size w wy)) (fun c _ => j - (intOf c).toNat)
          case atStart => exact ⟨0, Nat.zero_le _, rfl, HQX⟩
          case round =>
            obtain ⟨q, hq, rfl, HBy⟩ := hrel
            by_cases hqj : q < j
            · have HWy := Lib.hid (HW.out.below HBy.out)
              obtain ⟨y0, y1, _, _⟩ := HWy.out.c.at_ q (by omega)
              obtain ⟨_, y5, _, _⟩ := HWy.out.c.at_ j hlt
              rw [HKK.out] at y5
              have hgy := HWy.out.c.lt
              cases hu : (atS s q).u with
              | false =>
                rw [hu] at y0
                clear HWy
                go_wp2_with fail
                go_quiet (fail)
                go_wp2
                go_roundw
                case rel => exact ⟨q + 1, by omega, by go_num, below_drewN HBy.out _⟩
                case measure => simp [intOf]; omega
              | true =>
                rw [hu] at y0
                have t1 := str_ne (HKJ.out q hqj hu)
                generalize (atS s q).k = kq at y1 t1
                clear HWy
                go_wp2_with fail
                go_quiet (fail)
                go_wp2
                go_roundw
                case rel => exact ⟨q + 1, by omega, by go_num, below_drewN HBy.out _⟩
                case measure => simp [intOf]; omega
            · go_wp2_with fail
              go_roundw
              case rel => exact ⟨j + 1, by omega, by rw [HN.out]; push_cast; rfl, by go_num, HBy⟩
              case measure => simp [intOf]; omega
        · have g3 : decide (0 < (d : Int)) = true := decide_eq_true (by omega)
          have g4 : decide ((di : Int) < (d : Int) - 1) = false := decide_eq_false (by omega)
          have g5 : ¬ (di : Int) < (d : Int) - 1 := by omega
          have g6 : 0 < (d : Int) := by omega
          go_quiet (fail)
          have HQX := Lib.hid (below_drewN HQ.out nq)
          clear a0 a3 ax nh1 hg9 z0 z1 z2 z3 x0 x1 x2 x3 hmod hmp e1 e2 e3 e4 e5 HWr
          go_wp2_with fail
          go_loopw [16] (fun c wy => ∃ q : Nat, q ≤ j ∧ c = .int .i64 (q : Int) ∧ Hid (Below w.heap.size w wy)) (fun c _ => j - (intOf c).toNat)
          case atStart => exact ⟨0, Nat.zero_le _, rfl, HQX⟩
          case round =>
            obtain ⟨q, hq, rfl, HBy⟩ := hrel
            by_cases hqj : q < j
            · have HWy := Lib.hid (HW.out.below HBy.out)
              obtain ⟨y0, y1, _, _⟩ := HWy.out.c.at_ q (by omega)
              obtain ⟨_, y5, _, _⟩ := HWy.out.c.at_ j hlt
              rw [HKK.out] at y5
              have hgy := HWy.out.c.lt
              cases hu : (atS s q).u with
              | false =>
                rw [hu] at y0
                clear HWy
                go_wp2_with fail
                go_quiet (fail)
                go_wp2
                go_roundw
                case rel => exact ⟨q + 1, by omega, by go_num, below_drewN HBy.out _⟩
                case measure => simp [intOf]; omega
              | true =>
                rw [hu] at y0
                have t1 := str_ne (HKJ.out q hqj hu)
                generalize (atS s q).k = kq at y1 t1
                clear HWy
                go_wp2_with fail
                go_quiet (fail)
                go_wp2
                go_roundw
                case rel => exact ⟨q + 1, by omega, by go_num, below_drewN HBy.out _⟩
                case measure => simp [intOf]; omega
            · go_wp2_with fail
              go_roundw
              case rel => exact ⟨j + 1, by omega, by rw [HN.out]; push_cast; rfl, by go_num, HBy⟩
              case measure => simp [intOf]; omega
    · obtain rfl : j = n := by omega
      have HE := Lib.hid (show cntTo s j = l.length by rw [← HCN.out, ← cntTo_all, HL.out])
      rw [HE.out]
      go_wp2
      go_ret
      exact ⟨by simp, HB.out⟩
end Go.Proofs.YtgcdminjpdbchaaDoor
