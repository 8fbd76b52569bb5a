/- The buckets of a ring, gone through by a range over a function: the iterator's contract. -/
import Derived.Test.YtbmjpfcnagodaaaRg3
import Derived.RangeFuncNested
import Derived.RangeFuncBound
import Derived.RangeFuncCalls
import Derived.RangeFuncLeaves
import Derived.RangeFuncBox
import Derived.Shelf.Abstract
import Derived.Shelf.RegionOpen
import Derived.OwnWalkIn
import Derived.TacticsInMore
import Derived.LoopNIn
import Derived.LoopIn
import Derived.Stop.RegionWithIn
namespace Go.Proofs.Ytbmjpfcnagodaaa
open Go.ChangeShapes Go.WideShapes Go.ChangeAt Go.RowKit Go.Shelf
set_option linter.unusedVariables false
attribute [local go_sem] Oper.semAt_some

/-- A number below B. -/
abbrev Ix (B : Nat) := { i : Nat // i < B }
/-- The first j of them. -/
def upL (B : Nat) : Nat → List (Ix B)
  | 0 => []
  | j + 1 => if h : j < B then upL B j ++ [⟨j, h⟩] else upL B j
theorem upL_succ {B j : Nat} (h : j < B) : upL B (j + 1) = upL B j ++ [⟨j, h⟩] := by rw [upL, dif_pos h]
theorem upL_len (B j : Nat) : (upL B j).length ≤ j := by
  induction j with
  | zero => simp [upL]
  | succ j ih =>
    rw [upL]
    split
    · simp; omega
    · omega
/-- When the i-th bucket goes, counted from where the bucket of a cell's time begins. -/
def goesI (q sl : Int) : Nat → Int
  | 0 => q
  | i + 1 => goesI q sl i + sl
theorem goesI_bd {q sl : Int} (h1 : 0 ≤ q) (h2 : 1 ≤ sl) (h3 : sl ≤ 1048576) (i : Nat) : q ≤ goesI q sl i ∧ goesI q sl i ≤ q + i * 1048576 := by
  induction i with
  | zero => simp [goesI]
  | succ i ih => simp only [goesI]; omega
theorem goesI_eq (N sl : Int) (i : Nat) : goesI (N * sl) sl i = (N + i) * sl := by
  induction i with
  | zero => simp [goesI]
  | succ i ih =>
    simp only [goesI]
    rw [ih, show N + ((i + 1 : Nat) : Int) = (N + (i : Int)) + 1 by omega, Int.add_mul (N + (i : Int)) 1 sl, Int.one_mul]
/-- All cells of these blocks are kept. -/
def KeepS (S : Nat → Prop) (W W' : World) : Prop := ∀ k c t fr, S k → W.heap[k]? = some (.cells c t fr) → W'.heap[k]? = some (.cells c t fr)
theorem KeepS.trans {S : Nat → Prop} {A B C : World} (h : KeepS S A B) (k : KeepS S B C) : KeepS S A C := fun i c t fr hs hc => k i c t fr hs (h i c t fr hs hc)
theorem KeepS.putObj {S : Nat → Prop} {W : World} {l : Nat} {o : Obj} (o' : Obj) (hl : W.heap[l]? = some o) (ho : o.isCells = false) : KeepS S W (W.putObj l o') := fun k c t fr _ hc => by
  have hne : k ≠ l := fun e => by subst e; rw [hl] at hc; injection hc with e; subst e; cases ho
  rw [World.putObj_heap_other hne]; exact hc
theorem has_keepS {S : Nat → Prop} {W W' : World} {g : Nat} {t : TypeId} {ls : List Value} (h : Has W g t ls) (hk : KeepS S W W') (hs : S g) : Has W' g t ls := hk g _ _ _ hs h
theorem sums_keepS {S : Nat → Prop} {W W' : World} {sa : Option Addr} {sn : Nat} {f : Nat → Int} (h : SumsAt W sa sn f) (hk : KeepS S W W') (hs : ∀ c o, sa = some ⟨c, o, none⟩ → S c) : SumsAt W' sa sn f := by
  intro h0
  obtain ⟨c, o, e, hl, hc⟩ := h h0
  have hS := hs c o e
  have c0 := hc 0 h0
  have hx : ∃ cs t fr, W.heap[c]? = some (.cells cs t fr) := by
    unfold World.cell? at c0
    split at c0
    · rename_i cs t fr hh; exact ⟨cs, t, fr, hh⟩
    · cases c0
  obtain ⟨cs, t, fr, hh⟩ := hx
  have h2 := hk c cs t fr hS hh
  have hlt : c < W'.heap.size := by
    rcases Nat.lt_or_ge c W'.heap.size with q | q
    · exact q
    · rw [Array.getElem?_eq_none q] at h2; cases h2
  exact ⟨c, o, e, hlt, fun i hi => (World.cell?_of_block (w := W) (a := ⟨c, o + i, none⟩) (h2.trans hh.symm)).trans (hc i hi)⟩
/-- What the iterator reads. -/
structure GoB (W : World) (gP gC : Nat) (k l v b a : Int) (sa : Option Addr) (sn sc : Nat) (y : Value) (f : Nat → Int) : Prop where
  p : Has W gP 23 [.int .i64 k, .int .i64 l, .int .i64 v, .int .i64 b]
  c : Has W gC 27 [.int .i64 a, .int .i64 0, .slice sa sn sc, y]
  s : SumsAt W sa sn f
theorem GoB.below {W W' : World} {gP gC : Nat} {k l v b a : Int} {sa : Option Addr} {sn sc : Nat} {y : Value} {f : Nat → Int} (h : GoB W gP gC k l v b a sa sn sc y f) (hb : Below W.heap.size W W') : GoB W' gP gC k l v b a sa sn sc y f := ⟨h.p.below hb h.p.lt, h.c.below hb h.c.lt, h.s.below hb⟩
theorem GoB.keeps {S : Nat → Prop} {W W' : World} {gP gC : Nat} {k l v b a : Int} {sa : Option Addr} {sn sc : Nat} {y : Value} {f : Nat → Int} (h : GoB W gP gC k l v b a sa sn sc y f) (hk : KeepS S W W') (h1 : S gP) (h2 : S gC) (h3 : ∀ c o, sa = some ⟨c, o, none⟩ → S c) : GoB W' gP gC k l v b a sa sn sc y f := ⟨has_keepS h.p hk h1, has_keepS h.c hk h2, sums_keepS h.s hk h3⟩
theorem grown_of_below {W W' : World} (hb : Below W.heap.size W W') : W.grownBy W' none := ⟨hb.os, hb.tape, hb.output, hb.size, fun k hk _ => hb.block k hk⟩
/-- What the i-th round is handed. -/
def valV (b N : Int) (f : Nat → Int) (i : Nat) : Int := f ((N + 1 + i) % b).toNat

/-- What a round has said. -/
def Said {sn : Nat} (J Jx : List (Ix sn) → World → Prop) (S : Nat → Prop) (ys : List (Ix sn)) (W : World) (q : Bool) (W' : World) : Prop := (q = true ∧ J ys W' ∧ KeepS S W W') ∨ (q = false ∧ Jx ys W')
/-- What is known behind the call of place, ahead of a round. -/
theorem after_place {n L gP gC : Nat} {S : Nat → Prop} {k l v b N q sl a gj : Int} {g1 o1 sn sc j r : Nat} {y : Value} {f : Nat → Int} {J Jx : List (Ix sn) → World → Prop} {Wz : Nat} (hJ : AbidesFrom Wz J)
    (hY : ∀ pre (x : Ix sn) W, J pre W → pre.length < sn → YieldAt Fence.wide (n - 1) Try.prog L #[.int .i64 (goesI q sl (x.1 + 1)), .int .i64 (valV b N f x.1)] W fun e W' =>
      (e = .returned (.bool true) ∧ J (pre ++ [x]) W' ∧ KeepS S W W') ∨ (e = .returned (.bool false) ∧ Jx (pre ++ [x]) W'))
    {wr w2 : World} (hj : J (upL sn j) wr) (hG : GoB wr gP gC k l v b a (some ⟨g1, o1, none⟩) sn sc y f) (hb : Below wr.heap.size wr w2) (hlt : j < sn) (hrn : r < sn) (hs : goesI q sl (j + 1) = gj + sl) (hv : f r = valV b N f j) :
    ∃ (_ : Hid (GoB w2 gP gC k l v b a (some ⟨g1, o1, none⟩) sn sc y f)) (_ : Hid (J (upL sn j) w2)) (_ : w2.cell? ⟨gC, 0, none⟩ = some (.int .i64 a)) (_ : w2.cell? ⟨gC, 1, none⟩ = some (.int .i64 0)) (_ : w2.cell? ⟨gC, 2, none⟩ = some (.slice (some ⟨g1, o1, none⟩) sn sc)) (_ : w2.cell? ⟨gC, 3, none⟩ = some y) (_ : w2.cell? ⟨g1, o1 + r, none⟩ = some (.int .i64 (f r))),
      YieldAt Fence.wide (n - 1) Try.prog L #[.int .i64 (gj + sl), .int .i64 (f r)] w2 fun e W' => ∃ q : Bool, e = .returned (.bool q) ∧ Said J Jx S (upL sn (j + 1)) w2 q W' := by
  have g3 := hG.below hb
  have j3 : J (upL sn j) w2 := hJ _ _ _ none hj (grown_of_below hb) (fun r e => by cases e)
  obtain ⟨c, o, e, hl, hc⟩ := g3.s (by omega)
  cases e
  have hy := hY (upL sn j) ⟨j, hlt⟩ w2 j3 (by have := upL_len sn j; omega)
  rw [← upL_succ hlt] at hy
  simp only at hy
  rw [hs, ← hv] at hy
  exact ⟨Lib.hid g3, Lib.hid j3, g3.c.cell 0, g3.c.cell 1, g3.c.cell 2, g3.c.cell 3, hc r hrn, hy.mono (fun e W' h => by
    rcases h with ⟨e1, h1, h2⟩ | ⟨e1, h1⟩
    · exact ⟨true, e1, .inl ⟨rfl, h1, h2⟩⟩
    · exact ⟨false, e1, .inr ⟨rfl, h1⟩⟩)⟩
set_option maxRecDepth 100000 in
set_option maxHeartbeats 2000000 in
theorem going1_in (n : Nat) (hn : 2 ≤ n) (L gP gC : Nat) (S : Nat → Prop) (k l v b sl a : Int) (sa : Option Addr) (sn sc : Nat) (y : Value) (f : Nat → Int) (J Jx : List (Ix sn) → World → Prop) (Wz : Nat) (hJ : AbidesFrom Wz J)
    (h : RP k l v b sl) (a1 : 0 ≤ a) (a2 : a ≤ 1099511627776) (hs : sn = 0 ∨ (sn : Int) = b) (s1 : S gP) (s2 : S gC) (s3 : ∀ c o, sa = some ⟨c, o, none⟩ → S c)
    (hY : ∀ pre (x : Ix sn) W, J pre W → pre.length < sn → YieldAt Fence.wide (n - 1) Try.prog L #[.int .i64 (goesI (a / sl * sl) sl (x.1 + 1)), .int .i64 (valV b (a / sl) f x.1)] W fun e W' =>
      (e = .returned (.bool true) ∧ J (pre ++ [x]) W' ∧ KeepS S W W') ∨ (e = .returned (.bool false) ∧ Jx (pre ++ [x]) W'))
    (W : World) (hG : GoB W gP gC k l v b a sa sn sc y f) (h0 : J [] W) :
    CallsIn Fence.wide n Try.prog 39 #[.func (.yield L) #[] #[], .pointer (some ⟨gP, 0, none⟩), .pointer (some ⟨gC, 0, none⟩)] W fun e W' => (∃ v, e = .returned v) ∧
      ((∃ ys, ys = upL sn sn ∧ J ys W') ∨ (∃ pre, (∃ j, j ≤ sn ∧ pre = upL sn j) ∧ Jx pre W')) := by
  have SL := Lib.hid (fun u => slot_any u h)
  obtain ⟨_, _, v1, v2, b1, b2, q1, q2, _⟩ := h.bd
  obtain ⟨d0, d1⟩ := div_bd a1 q1
  have hsn : sn ≤ 16 := by rcases hs with e | e <;> omega
  have hm := hG.p
  have HG := Lib.hid hG
  have H0 := Lib.hid h0
  have HY := Lib.hid hY
  have HJ := Lib.hid hJ
  have HR := Lib.hid h
  clear hm h h0 hY hJ
  refine callsIn_of_wp Try.func39 rfl trivial ?_ rfl
  simp only [Try.ntmps39, List.size_toArray, List.length_cons, List.length_nil, Nat.reduceAdd, Nat.reduceSub, Array.replicate_succ, Array.replicate_zero, List.push_toArray, List.append_toArray, List.nil_append, List.cons_append]
  obtain ⟨z0, z1, z2, z3⟩ : W.cell? ⟨gP, 0, none⟩ = some (.int .i64 k) ∧ W.cell? ⟨gP, 1, none⟩ = some (.int .i64 l) ∧ W.cell? ⟨gP, 2, none⟩ = some (.int .i64 v) ∧ W.cell? ⟨gP, 3, none⟩ = some (.int .i64 b) := ⟨HG.out.p.cell 0, HG.out.p.cell 1, HG.out.p.cell 2, HG.out.p.cell 3⟩
  have u1 : 1 ≤ n := by omega
  have m0 := goesI_bd (q := a / sl * sl) (sl := sl) (Int.mul_nonneg d0 (by omega)) q1 q2
  have m1 : a / sl * sl ≤ a := Int.ediv_mul_le a (by omega)
  have m2 : 0 ≤ a / sl * sl := Int.mul_nonneg d0 (by omega)
  have M0 := Lib.hid m0
  have e1 : IntKind.i64.wrap (a / sl * sl) = a / sl * sl := wrap_i (by omega) (by omega)
  have sz : (sl == 0) = false := by simp; omega
  clear m0
  gi_wp2
  refine ⟨trivial, ?_⟩
  refine (callsIn_wide.2 (SL.out _)).mono ?_
  rintro e w1 ⟨rfl, hb⟩
  have G1 := Lib.hid (HG.out.below hb)
  have J1 := Lib.hid (HJ.out _ _ _ none H0.out (grown_of_below hb) (fun r e => by cases e))
  clear hb z0 z1 z2 z3 HG H0
  obtain ⟨c0, c1, c2, c3⟩ : w1.cell? ⟨gC, 0, none⟩ = some (.int .i64 a) ∧ w1.cell? ⟨gC, 1, none⟩ = some (.int .i64 0) ∧ w1.cell? ⟨gC, 2, none⟩ = some (.slice sa sn sc) ∧ w1.cell? ⟨gC, 3, none⟩ = some y := ⟨G1.out.c.cell 0, G1.out.c.cell 1, G1.out.c.cell 2, G1.out.c.cell 3⟩
  gi_wp2
  gi_loopw [5, 17] (fun vg vi wr => ∃ j : Nat, j ≤ sn ∧ vi = .int .i64 (j : Int) ∧ vg = .int .i64 (goesI (a / sl * sl) sl j) ∧ J (upL sn j) wr ∧ GoB wr gP gC k l v b a sa sn sc y f) (fun _ vi _ => sn - (intOf vi).toNat)
  case atStart => exact ⟨0, Nat.zero_le _, rfl, rfl, J1.out, G1.out⟩
  case round =>
    obtain ⟨j, hj, rfl, rfl, hJ1, hG1⟩ := hrel
    clear c0 c1 c2 c3 J1 G1
    have J2 := Lib.hid hJ1
    have G2 := Lib.hid hG1
    clear hJ1 hG1
    by_cases hlt : j < sn
    · obtain ⟨m3, m4⟩ := M0.out j
      have HS := Lib.hid (show goesI (a / sl * sl) sl (j + 1) = goesI (a / sl * sl) sl j + sl from rfl)
      have hmx : Try.prog.follows .mixedOrders = true := by kernel_rfl
      generalize goesI (a / sl * sl) sl j = gj at *
      have PL := Lib.hid (fun u => place_any k l v b sl (gj + sl) u HR.out (by omega) (by omega))
      have hpl : (gj + sl) / sl % b = (a / sl + 1 + (j : Int)) % b := by
        have e := HS.out
        rw [goesI_eq] at e
        rw [← e, Int.mul_ediv_cancel _ (by omega), show a / sl + ((j + 1 : Nat) : Int) = a / sl + 1 + (j : Int) by omega]
      rw [hpl] at PL
      have r0 : 0 ≤ (a / sl + 1 + (j : Int)) % b := Int.emod_nonneg _ (by omega)
      have r1 : (a / sl + 1 + (j : Int)) % b < b := Int.emod_lt_of_pos _ (by omega)
      obtain ⟨r, hr⟩ : ∃ r : Nat, (a / sl + 1 + (j : Int)) % b = (r : Int) := ⟨((a / sl + 1 + (j : Int)) % b).toNat, by omega⟩
      have hsb : (sn : Int) = b := by rcases hs with e | e <;> omega
      have hrn : r < sn := by omega
      have HV := Lib.hid (show f r = valV b (a / sl) f j by unfold valV; rw [hr]; rfl)
      rw [hr] at PL
      obtain ⟨g1, o1, rfl, hl1, hc1⟩ := G2.out.s (by omega)
      clear hpl hr r0 r1 hc1 hl1 hsb
      have B0 : (0 : Int) ≤ (r : Int) := by omega
      have B1 : (r : Int) < (sn : Int) := by omega
      clear hs
      obtain ⟨z0, z1, z2, z3⟩ : wr.cell? ⟨gP, 0, none⟩ = some (.int .i64 k) ∧ wr.cell? ⟨gP, 1, none⟩ = some (.int .i64 l) ∧ wr.cell? ⟨gP, 2, none⟩ = some (.int .i64 v) ∧ wr.cell? ⟨gP, 3, none⟩ = some (.int .i64 b) := ⟨G2.out.p.cell 0, G2.out.p.cell 1, G2.out.p.cell 2, G2.out.p.cell 3⟩
      obtain ⟨c0, c1, c2, c3⟩ : wr.cell? ⟨gC, 0, none⟩ = some (.int .i64 a) ∧ wr.cell? ⟨gC, 1, none⟩ = some (.int .i64 0) ∧ wr.cell? ⟨gC, 2, none⟩ = some (.slice (some ⟨g1, o1, none⟩) sn sc) ∧ wr.cell? ⟨gC, 3, none⟩ = some y := ⟨G2.out.c.cell 0, G2.out.c.cell 1, G2.out.c.cell 2, G2.out.c.cell 3⟩
      gi_wp2
      gi_region_with (first | (refine ⟨trivial, ?_⟩; refine (callsIn_wide.2 (PL.out _)).mono ?_; rintro e w2 ⟨rfl, hb⟩; obtain ⟨G3, J3, d0', d1', d2', d3', x0, fn, tm, asg, bo, hy, hR⟩ := after_place HJ.out HY.out J2.out G2.out ⟨hb.os, hb.tape, hb.output, hb.size, hb.block⟩ hlt hrn HS.out HV.out; have HR2 := Lib.hid hR; clear hb hR) | (refine HR2.out.mono ?_; rintro e W3 ⟨rb, rfl, hsd⟩; have SD := Lib.hid hsd; clear hsd))
      all_goals
        rcases SD.out with ⟨rfl, hJ4, hk4⟩ | ⟨rfl, hJx4⟩
        · have R4 := Lib.hid (And.intro hJ4 (G3.out.keeps hk4 s1 s2 s3))
          clear hJ4 hk4
          gi_wp2
          go_roundw
          case rel => exact ⟨j + 1, by omega, by go_num, by rw [HS.out], R4.out⟩
          case measure => simp [intOf]; omega
        · have R4 := Lib.hid hJx4
          clear hJx4
          gi_wp2
          refine bodyPost_ret (results_none rfl _ _ _) rfl ?_
          exact ⟨⟨_, rfl⟩, .inr ⟨_, ⟨j + 1, by omega, rfl⟩, R4.out⟩⟩
    · gi_wp2
      go_end0
      exact ⟨⟨_, rfl⟩, .inl ⟨_, by rw [show sn = j by omega], J2.out⟩⟩
end Go.Proofs.Ytbmjpfcnagodaaa
