/- The slab's contracts over one fixed set of blocks; a slab that may be. -/
import Derived.Test.YtbmapjbjpgoibaaSlab6
namespace Go.Proofs.Ytbmapjbjpgoibaa
open Go.ChangeShapes Go.WideShapes Go.ChangeAt Go.RowKit
set_option linter.unusedVariables false

/-- A slab lies in these blocks. -/
structure SlabIn (FT : Nat → Prop) (w : World) (bP bC bF k : Nat) (s : Sl) : Prop where
  is : IsSlab w bP bC bF k s
  ft : ∀ b, foot bP bC bF s b ↔ FT b
/-- A value is told; the slab is s' now; nothing but its blocks, and new ones, has changed. -/
def InTells (FT : Nat → Prop) (bP bC bF k : Nat) (s' : Sl) (v : Value) (w : World) (e : Ending) (w' : World) : Prop :=
  e = .returned v ∧ SlabIn FT w' bP bC bF k s' ∧ Kept FT w w'

section
variable {FT : Nat → Prop} {w w' : World} {bP bC bF k : Nat} {s : Sl}
theorem SlabIn.below (h : SlabIn FT w bP bC bF k s) (hb : Below w.heap.size w w') : SlabIn FT w' bP bC bF k s := ⟨h.is.below hb, h.ft⟩
theorem SlabIn.kept {G : Nat → Prop} (h : SlabIn FT w bP bC bF k s) (hb : Kept G w w') (hG : ∀ b, FT b → ¬ G b) : SlabIn FT w' bP bC bF k s := ⟨h.is.kept hb (fun b hf => hG b ((h.ft b).1 hf)), h.ft⟩
theorem SlabIn.lt (h : SlabIn FT w bP bC bF k s) {b : Nat} (hb : FT b) : b < w.heap.size := h.is.foot_lt ((h.ft b).2 hb)
theorem Kept.foot_ft {s : Sl} (hf : ∀ b, foot bP bC bF s b ↔ FT b) (h : Kept (foot bP bC bF s) w w') : Kept FT w w' := h.mono (fun b _ hb => (hf b).1 hb)
end

theorem New_in (n k : Nat) (w : World) (h1 : 1 ≤ n) (h2 : n ≤ 64) (h3 : k ≤ 32) :
    Calls Try.prog 11 #[.int .i64 n, .int .i64 k] w fun e w' => ∃ (FT : Nat → Prop) (bP bC bF : Nat) (bs : List Nat), e = .returned (.tuple #[.pointer (some ⟨bP, 0, none⟩), .int .i64 0]) ∧ bs.length = n ∧ SlabIn FT w' bP bC bF k (newS n k bs) ∧ Below w.heap.size w w' ∧ ∀ b, FT b → w.heap.size ≤ b :=
  (New_yes n k w h1 h2 h3).mono fun e w' ⟨bP, bC, bF, bs, he, hl, hs, hb, hf⟩ => ⟨foot bP bC bF (newS n k bs), bP, bC, bF, bs, he, hl, ⟨hs, fun b => Iff.rfl⟩, hb, hf⟩
theorem Take_in (FT : Nat → Prop) (bP bC bF k i : Nat) (s : Sl) (c : SC) (fs : List Nat) (v : Int) (w : World) (h : SlabIn FT w bP bC bF k s) (hc : s.cells[i]? = some c) (hf : s.free = fs ++ [i]) (hv : (c.gen : Int) * 64 + i = v) :
    Calls Try.prog 14 #[.pointer (some ⟨bP, 0, none⟩)] w (InTells FT bP bC bF k (s.put i { c with taken := true, ws := List.replicate k 0 } fs) (.tuple #[.int .i64 v, .int .i64 0]) w) := by
  subst hv
  exact (Take_yes bP bC bF k i s c fs w h.is hc hf).mono fun e w' ⟨he, hs, hk⟩ => ⟨he, ⟨hs, fun b => (foot_put (c' := { c with taken := true, ws := List.replicate k 0 }) hc rfl b).trans (h.ft b)⟩, hk.foot_ft h.ft⟩
theorem Give_in (FT : Nat → Prop) (bP bC bF k i : Nat) (h : Int) (s : Sl) (c : SC) (w : World) (hs : SlabIn FT w bP bC bF k s) (e : s.find h = some i) (hc : s.cells[i]? = some c) (hfl : s.free.length < s.cells.length) (hg : c.gen < 1000000) :
    Calls Try.prog 16 #[.pointer (some ⟨bP, 0, none⟩), .int .i64 h] w (InTells FT bP bC bF k (s.put i { c with taken := false, gen := c.gen + 1 } (s.free ++ [i])) (.int .i64 0) w) :=
  (Give_yes bP bC bF k i h s c w hs.is e hc hfl hg).mono fun e w' ⟨he, h2, hk⟩ => ⟨he, ⟨h2, fun b => (foot_put (c' := { c with taken := false, gen := c.gen + 1 }) hc rfl b).trans (hs.ft b)⟩, hk.foot_ft hs.ft⟩
theorem Write_in (FT : Nat → Prop) (bP bC bF k i : Nat) (h : Int) (A : Option Addr) (cap : Nat) (ns : List Nat) (s : Sl) (c : SC) (w : World) (hs : SlabIn FT w bP bC bF k s) (e : s.find h = some i) (hc : s.cells[i]? = some c) (hw : Words w A k ns) :
    Calls Try.prog 21 #[.pointer (some ⟨bP, 0, none⟩), .int .i64 h, .slice A k cap] w (InTells FT bP bC bF k (s.put i { c with ws := ns } s.free) (.int .i64 0) w) :=
  (Write_yes bP bC bF k i h A cap ns s c w hs.is e hc hw).mono fun e w' ⟨he, h2, hk⟩ => ⟨he, ⟨h2, fun b => (foot_put (c' := { c with ws := ns }) hc rfl b).trans (hs.ft b)⟩, hk.foot_ft hs.ft⟩

theorem OwnW.kept {F : Nat → Prop} {w w' : World} {g len : Nat} {ns : List Nat} (h : OwnW w g len ns) (hk : Kept F w w') (hg : ¬ F g) : OwnW w' g len ns := by
  obtain ⟨l, hh, h2⟩ := h
  exact ⟨l, hh.kept hk hg, h2⟩
theorem Words.kept {F : Nat → Prop} {w w' : World} {A : Option Addr} {len : Nat} {ns : List Nat} (h : Words w A len ns) (hk : Kept F w w') (hg : ∀ a, A = some a → ¬ F a.block) : Words w' A len ns := by
  obtain ⟨h1, h2, h3⟩ := h
  refine ⟨h1, h2, fun hl => ?_⟩
  obtain ⟨b, off, rfl, hlt, hc⟩ := h3 hl
  exact ⟨b, off, rfl, Nat.lt_of_lt_of_le hlt hk.size, fun i hi => by
    rw [← hc i hi]
    exact World.cell?_of_block (hk.block b hlt (hg _ rfl))⟩
/-- What a list of handles reads as. -/
theorem ints_of_row {w : World} {base : Nat} {v : Value} {zs : List Int} (h : w.ownsRow base 3 1 v zs.length (zs.map (Value.int .i64))) (hv : v = .slice none 0 0 ↔ zs = []) :
    ∃ A cap, v = .slice A zs.length cap ∧ zs.length ≤ cap ∧ (∀ a, A = some a → base ≤ a.block ∧ a.block < w.heap.size) ∧ (0 < zs.length → ∃ g, A = some ⟨g, 0, none⟩) ∧ ∀ (i : Nat) z, zs[i]? = some z → ∃ g, A = some ⟨g, 0, none⟩ ∧ w.cell? ⟨g, i, none⟩ = some (.int .i64 z) := by
  rcases h.2 with ⟨h2, h3⟩ | ⟨g, cap, cur, rfl, hb, hh, hc, hm, hz, ht⟩
  · have h0 := hv.1 h2
    subst h0
    exact ⟨none, 0, h2, Nat.le_refl _, (fun a e => by cases e), (fun h => by simp at h), fun i z hz => by simp at hz⟩
  · have hlt : g < w.heap.size := by
      rcases Nat.lt_or_ge g w.heap.size with hlt | hge
      · exact hlt
      · rw [Array.getElem?_eq_none hge] at hh; cases hh
    refine ⟨some ⟨g, 0, none⟩, cap, rfl, hc, (fun a e => by cases e; exact ⟨hb, hlt⟩), (fun _ => ⟨g, rfl⟩), fun i z hi => ⟨g, rfl, ?_⟩⟩
    have hil : i < zs.length := (List.getElem?_eq_some_iff.1 hi).1
    rw [cell_of_row w g i cur _ _ hh]
    have h3 : (cur.toList.take (zs.length * 1))[i]? = cur.toList[i]? := by rw [List.getElem?_take, if_pos (by omega)]
    rw [← Array.getElem?_toList, ← h3, ht, List.getElem?_map, hi]
    rfl

theorem words_new (w : World) (n : Nat) (hn : n < 18446744073709551616) : Words (w.alloc (.cells #[.int .u64 (n : Int)] 49)) (some ⟨w.heap.size, 0, none⟩) 1 [n] := by
  have h := Has.made w 49 [.int .u64 (n : Int)]
  refine ⟨rfl, fun x hx => by rw [List.mem_singleton.1 hx]; exact hn, fun _ => ⟨w.heap.size, 0, rfl, h.lt, fun i hi => ?_⟩⟩
  have : i = 0 := by omega
  subst this
  exact h.cell 0
theorem words_nil (w : World) : Words w none 0 [] := ⟨rfl, (by intro x hx; cases hx), fun h => absurd h (by omega)⟩

/- The slab of the statements' own example. -/
def S0 (b c : Nat) : Sl := ⟨[⟨false, 0, b, [0]⟩, ⟨false, 0, c, [0]⟩], [1, 0]⟩
def S1 (b c : Nat) : Sl := ⟨[⟨true, 0, b, [0]⟩, ⟨false, 0, c, [0]⟩], [1]⟩
def S2 (b c : Nat) : Sl := ⟨[⟨true, 0, b, [7]⟩, ⟨false, 0, c, [0]⟩], [1]⟩
def S3 (b c : Nat) : Sl := ⟨[⟨false, 1, b, [7]⟩, ⟨false, 0, c, [0]⟩], [1, 0]⟩
def S4 (b c : Nat) : Sl := ⟨[⟨true, 1, b, [0]⟩, ⟨false, 0, c, [0]⟩], [1]⟩
def S5 (b c : Nat) : Sl := ⟨[⟨true, 1, b, [0]⟩, ⟨true, 0, c, [0]⟩], []⟩

set_option maxRecDepth 100000 in
set_option maxHeartbeats 4000000 in
theorem live_any (w : World) : Calls Try.prog 10 #[] w fun e w' => e = .returned (.bool true) ∧ Below w.heap.size w w' := by
  go_enter Try.func10, Try.ntmps10
  go_wp2_with fail
  refine (New_in 2 1 w (by decide) (by decide) (by decide)).mono ?_
  rintro e w1 ⟨FT, bP, bC, bF, bs, rfl, hl, hS, hB, hlo⟩
  obtain ⟨b, c, rfl⟩ : ∃ b c, bs = [b, c] := by
    match bs, hl with
    | [b, c], _ => exact ⟨b, c, rfl⟩
  have HS := Lib.hid (show SlabIn FT w1 bP bC bF 1 (S0 b c) from hS)
  have HB := Lib.hid hB
  have HLO := Lib.hid hlo
  have HK := fun w' w'' (h : Below w.heap.size w w') (k : Kept FT w' w'') => h.trans (k.below (B := w.heap.size) h.size (fun i hi hf => by have := hlo i hf; omega))
  have HBK := Lib.hid HK
  clear hS hB hlo hl HK
  go_wp2_with fail
  refine (New_bad 0 1 _ (by decide)).mono ?_
  rintro e w2 ⟨rfl, rfl⟩
  go_wp2_with fail
  refine (Take_in FT bP bC bF 1 0 (S0 b c) _ [1] 0 _ HS.out rfl rfl rfl).mono ?_
  rintro e w2 ⟨rfl, hS, hK⟩
  have HS1 := Lib.hid (show SlabIn FT w2 bP bC bF 1 (S1 b c) from hS)
  have HB1 := Lib.hid (HBK.out _ _ HB.out hK)
  clear hS hK HS HB
  have HW := Lib.hid (words_new w2 7 (by decide))
  have HS1' := Lib.hid (HS1.out.below ((Below.refl _ w2).alloc (Nat.le_refl _) (.cells #[.int .u64 7] 49)))
  have HB1' := Lib.hid (HB1.out.alloc HB1.out.size (.cells #[.int .u64 7] 49))
  go_wp2_with fail
  refine (Write_in FT bP bC bF 1 0 0 _ 1 [7] (S1 b c) _ _ HS1'.out rfl rfl HW.out).mono ?_
  rintro e w3 ⟨rfl, hS, hK⟩
  have HS2 := Lib.hid (show SlabIn FT w3 bP bC bF 1 (S2 b c) from hS)
  have HB2 := Lib.hid (HBK.out _ _ HB1'.out hK)
  clear hS hK HS1 HB1 HS1' HB1' HW
  go_wp2_with fail
  refine (Read_yes bP bC bF 1 0 0 (S2 b c) _ _ HS2.out.is rfl rfl).mono ?_
  rintro e w4 ⟨A, cap, rfl, hf, hb⟩
  obtain ⟨hcap, _, _, hor⟩ := hf
  obtain ⟨g, rfl, hg, ho⟩ : ∃ g, A = some ⟨g, 0, none⟩ ∧ w3.heap.size ≤ g ∧ OwnW w4 g 1 [7] := by
    rcases hor with ⟨_, h0⟩ | h
    · simp at h0
    · exact h
  have HG := Lib.hid (show ¬ FT g from fun hf => by have := HS2.out.lt hf; omega)
  have HO4 := Lib.hid ho
  have HS3 := Lib.hid (HS2.out.below hb)
  have HB3 := Lib.hid (HB2.out.trans (hb.mono HB2.out.size))
  clear hor ho hb hg HS2 HB2
  go_wp2_with fail
  refine (Give_in FT bP bC bF 1 0 0 (S2 b c) _ _ HS3.out rfl rfl (show 1 < 2 by decide) (show 0 < 1000000 by decide)).mono ?_
  rintro e w5 ⟨rfl, hS, hK⟩
  have HS4 := Lib.hid (show SlabIn FT w5 bP bC bF 1 (S3 b c) from hS)
  have HB4 := Lib.hid (HBK.out _ _ HB3.out hK)
  have HO5 := Lib.hid (HO4.out.kept hK HG.out)
  clear hS hK HS3 HB3 HO4
  go_wp2_with fail
  refine (Give_no bP bC bF 1 0 (S3 b c) _ HS4.out.is rfl).mono ?_
  rintro e w6 ⟨rfl, rfl⟩
  go_wp2_with fail
  refine (Take_in FT bP bC bF 1 0 (S3 b c) _ [1] 64 _ HS4.out rfl rfl rfl).mono ?_
  rintro e w6 ⟨rfl, hS, hK⟩
  have HS5 := Lib.hid (show SlabIn FT w6 bP bC bF 1 (S4 b c) from hS)
  have HB5 := Lib.hid (HBK.out _ _ HB4.out hK)
  have HO6 := Lib.hid (HO5.out.kept hK HG.out)
  clear hS hK HS4 HB4 HO5
  go_wp2_with fail
  refine (Read_yes bP bC bF 1 0 64 (S4 b c) _ _ HS5.out.is rfl rfl).mono ?_
  rintro e w7 ⟨A2, cap2, rfl, hf, hb⟩
  obtain ⟨hcap2, _, _, hor⟩ := hf
  obtain ⟨g2, rfl, hg, ho⟩ : ∃ g2, A2 = some ⟨g2, 0, none⟩ ∧ w6.heap.size ≤ g2 ∧ OwnW w7 g2 1 [0] := by
    rcases hor with ⟨_, h0⟩ | h
    · simp at h0
    · exact h
  have HG2 := Lib.hid (show ¬ FT g2 from fun hf => by have := HS5.out.lt hf; omega)
  have HP7 := Lib.hid ho
  have HO7 := Lib.hid (HO6.out.below hb HO6.out.lt)
  have HS6 := Lib.hid (HS5.out.below hb)
  have HB6 := Lib.hid (HB5.out.trans (hb.mono HB5.out.size))
  clear hor ho hb hg HS5 HB5 HO6
  go_wp2_with fail
  refine (Take_in FT bP bC bF 1 1 (S4 b c) _ [] 1 _ HS6.out rfl rfl rfl).mono ?_
  rintro e w8 ⟨rfl, hS, hK⟩
  have HS7 := Lib.hid (show SlabIn FT w8 bP bC bF 1 (S5 b c) from hS)
  have HB7 := Lib.hid (HBK.out _ _ HB6.out hK)
  have HO8 := Lib.hid (HO7.out.kept hK HG.out)
  have HP8 := Lib.hid (HP7.out.kept hK HG2.out)
  clear hS hK HS6 HB6 HO7 HP7
  go_wp2_with fail
  refine (Take_full bP bC bF 1 (S5 b c) _ HS7.out.is rfl).mono ?_
  rintro e w9 ⟨rfl, rfl⟩
  go_wp2_with fail
  refine (Live_any bP bC bF 1 (S5 b c) _ HS7.out.is).mono ?_
  rintro e w9 ⟨v, rfl, hrow, hnil, hb⟩
  have hlive : (S5 b c).live = [64, 1] := rfl
  rw [hlive] at hrow hnil
  obtain ⟨A3, cap3, rfl, hc3, _, hpos, hcell⟩ := ints_of_row hrow hnil
  obtain ⟨g3, rfl⟩ := hpos (by decide)
  have d0 : w9.cell? ⟨g3, 0, none⟩ = some (.int .i64 64) := by obtain ⟨g', e, h⟩ := hcell 0 64 rfl; cases e; exact h
  have d1 : w9.cell? ⟨g3, 1, none⟩ = some (.int .i64 1) := by obtain ⟨g', e, h⟩ := hcell 1 1 rfl; cases e; exact h
  have d2 := (HO8.out.below hb HO8.out.lt).cell (i := 0) (by decide)
  have d3 := (HP8.out.below hb HP8.out.lt).cell (i := 0) (by decide)
  simp at d2 d3
  have HS8 := Lib.hid (HS7.out.below hb)
  have HB8 := Lib.hid (HB7.out.trans (hb.mono HB7.out.size))
  clear hrow hnil hcell hpos hb hlive HS7 HB7 HO8 HP8
  simp at hc3 hcap hcap2
  go_wp2_with fail
  refine (Free_any bP bC bF 1 (S5 b c) _ HS8.out.is).mono ?_
  rintro e w10 ⟨rfl, rfl⟩
  rw [show (((S5 b c).free.length : Nat) : Int) = 0 from rfl]
  go_wp2_with fail
  refine (Write_len bP bC bF 1 1 1 none 0 0 (S5 b c) _ HS8.out.is rfl (by decide)).mono ?_
  rintro e w10 ⟨rfl, rfl⟩
  go_wp2
  go_ret
  exact ⟨rfl, HB8.out⟩
end Go.Proofs.Ytbmapjbjpgoibaa
