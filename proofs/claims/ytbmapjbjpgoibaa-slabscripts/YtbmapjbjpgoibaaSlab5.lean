/- The cells that are taken, gone through by a range over a function: the iterator's contract. -/
import Derived.Test.YtbmapjbjpgoibaaSlab4
import Derived.RangeFuncNested
import Derived.RangeFuncBound
import Derived.RangeFuncCalls
import Derived.RangeFuncLeaves
import Derived.RangeFuncBox
import Derived.Shelf.Abstract
import Derived.Shelf.RegionOpen
import Derived.OwnWalkIn
import Derived.TacticsInMore
import Derived.LoopNIn
import Derived.LoopIn
import Derived.Maps.AppendAt
import Derived.Deep.AppendLies
namespace Go.Proofs.Ytbmapjbjpgoibaa
open Go.ChangeShapes Go.WideShapes Go.ChangeAt Go.RowKit Go.Shelf
set_option linter.unusedVariables false
attribute [local go_sem] Oper.semAt_some

/-- A cell of a slab, with its number. -/
abbrev LC (s : Sl) := { p : Nat × SC // s.cells[p.1]? = some p.2 }
/-- The cells that are taken, among the first j. -/
def takenTo (s : Sl) : Nat → List (LC s)
  | 0 => []
  | j + 1 => match h : s.cells[j]? with
    | some c => if c.taken = true then takenTo s j ++ [⟨(j, c), h⟩] else takenTo s j
    | none => takenTo s j
theorem takenTo_yes {s : Sl} {j : Nat} {c : SC} (h : s.cells[j]? = some c) (ht : c.taken = true) : takenTo s (j + 1) = takenTo s j ++ [⟨(j, c), h⟩] := by
  rw [takenTo]
  split
  · rename_i c' h'
    have : c' = c := by rw [h] at h'; injection h' with e; exact e.symm
    subst this
    rw [if_pos ht]
  · rename_i h'; rw [h] at h'; cases h'
theorem takenTo_no {s : Sl} {j : Nat} {c : SC} (h : s.cells[j]? = some c) (ht : c.taken = false) : takenTo s (j + 1) = takenTo s j := by
  rw [takenTo]
  split
  · rename_i c' h'
    have : c' = c := by rw [h] at h'; injection h' with e; exact e.symm
    subst this
    rw [if_neg (by simp [ht])]
  · rfl
theorem takenTo_len (s : Sl) (j : Nat) : (takenTo s j).length ≤ j := by
  induction j with
  | zero => simp [takenTo]
  | succ j ih =>
    cases h : s.cells[j]? with
    | none =>
      rw [takenTo]
      split
      · rename_i c' h'; rw [h] at h'; cases h'
      · omega
    | some c =>
      cases ht : c.taken with
      | true => rw [takenTo_yes h ht]; simp; omega
      | false => rw [takenTo_no h ht]; omega
/-- A handle. -/
def hdl (p : Nat × SC) : Int := (p.2.gen : Int) * 64 + p.1
/-- The handles of the cells that are taken. -/
def Sl.live (s : Sl) : List Int := (takenTo s s.cells.length).map fun p => hdl p.1

/-- All cells of the memory below n₁ are kept, but those of block x. -/
def Keeps (n₁ x : Nat) (W W' : World) : Prop := ∀ k c t fr, k < n₁ → k ≠ x → W.heap[k]? = some (.cells c t fr) → W'.heap[k]? = some (.cells c t fr)
theorem Keeps.trans {n₁ x : Nat} {A B C : World} (h : Keeps n₁ x A B) (k : Keeps n₁ x B C) : Keeps n₁ x A C := fun i c t fr hn hi hc => k i c t fr hn hi (h i c t fr hn hi hc)
theorem Keeps.putObj {n₁ x : Nat} {W : World} {l : Nat} {o : Obj} (o' : Obj) (hl : W.heap[l]? = some o) (ho : o.isCells = false) : Keeps n₁ x W (W.putObj l o') := fun k c t fr _ _ hc => by
  have hne : k ≠ l := fun e => by subst e; rw [hl] at hc; injection hc with e; subst e; cases ho
  rw [World.putObj_heap_other hne]; exact hc
theorem Has.keeps {n₁ x : Nat} {w w' : World} {g : Nat} {t : TypeId} {l : List Value} (h : Has w g t l) (hk : Keeps n₁ x w w') (hn : g < n₁) (hg : g ≠ x) : Has w' g t l := hk g _ t _ hn hg h
theorem IsSlab.keeps {n₁ x : Nat} {w w' : World} {bP bC bF k : Nat} {s : Sl} (h : IsSlab w bP bC bF k s) (hk : Keeps n₁ x w w') (hx : ∀ b, foot bP bC bF s b → b < n₁ ∧ b ≠ x) : IsSlab w' bP bC bF k s := by
  obtain ⟨rest, h1, h2⟩ := h.fr
  have f1 := hx _ (.inl rfl)
  have f2 := hx _ (.inr (.inl rfl))
  have f3 := hx _ (.inr (.inr (.inl rfl)))
  exact ⟨h.hd.keeps hk f1.1 f1.2, h.cs.keeps hk f2.1 f2.2, ⟨rest, h1.keeps hk f3.1 f3.2, h2⟩,
    fun c hc => ⟨(h.ws c hc).1.keeps hk (hx _ (.inr (.inr (.inr ⟨c, hc, rfl⟩)))).1 (hx _ (.inr (.inr (.inr ⟨c, hc, rfl⟩)))).2, (h.ws c hc).2⟩, h.nd, h.n1, h.n64, h.k32, h.fi, h.gn⟩

set_option maxRecDepth 100000 in
set_option maxHeartbeats 1000000 in
theorem taken1_in (F : Fence) (n : Nat) (hF : F.fn 33) (hro : F.round = none) (hn : 1 ≤ n) (l Bn n₁ x bP bC bF k : Nat) (s : Sl) (J Jx : List (LC s) → World → Prop) (hx : ∀ b, foot bP bC bF s b → b < n₁ ∧ b ≠ x) (hBx : Bn < n₁ ∧ Bn ≠ x)
    (hY : ∀ pre p W, J pre W → pre.length < s.cells.length → YieldAt F (n - 1) Try.prog l #[.int .i64 (p.1.1 : Int)] W fun e W' =>
      (e = .returned (.bool true) ∧ J (pre ++ [p]) W' ∧ Keeps n₁ x W W') ∨ (e = .returned (.bool false) ∧ Jx (pre ++ [p]) W'))
    (W : World) (hB : Has W Bn 25 [.pointer (some ⟨bP, 0, none⟩)]) (hS : IsSlab W bP bC bF k s) (h0 : J [] W) :
    CallsIn F n Try.prog 33 #[.func (.yield l) #[] #[], .pointer (some ⟨Bn, 0, none⟩)] W fun e W' => (∃ v, e = .returned v) ∧
      ((∃ ys, ys = takenTo s s.cells.length ∧ J ys W') ∨ (∃ pre, pre.length ≤ s.cells.length ∧ Jx pre W')) := by
  have b0 := hB.cell 0
  have p0 := hS.p0
  have n64 := hS.n64
  simp at b0
  have HB := Lib.hid hB
  have HS := Lib.hid hS
  have H0 := Lib.hid h0
  have HX := Lib.hid hx
  have HBX := Lib.hid hBx
  clear hB hS h0 hx hBx
  obtain ⟨m, hm⟩ : ∃ m, m = s.cells.length := ⟨_, rfl⟩
  have HM := Lib.hid hm
  rw [← hm] at p0 n64
  clear hm
  refine callsIn_of_wp Try.func33 rfl hF ?_ hro
  simp only [Try.ntmps33, List.size_toArray, List.length_cons, List.length_nil, Nat.reduceAdd, Nat.reduceSub, Array.replicate_succ, Array.replicate_zero, List.push_toArray, List.append_toArray, List.nil_append, List.cons_append]
  gi_wp2
  gi_loopw [9] (fun i wr => ∃ j : Nat, j ≤ m ∧ i = .int .i64 (j : Int) ∧ J (takenTo s j) wr ∧ IsSlab wr bP bC bF k s ∧ Has wr Bn 25 [.pointer (some ⟨bP, 0, none⟩)]) (fun i _ => m - (intOf i).toNat)
  case atStart => exact ⟨0, Nat.zero_le _, rfl, H0.out, HS.out, HB.out⟩
  case round =>
    obtain ⟨j, hj, rfl, hJ, hS, hB⟩ := hrel
    clear b0 p0
    have b0 := hB.cell 0
    simp at b0
    have p0 := hS.p0
    have HSr := Lib.hid hS
    have HBr := Lib.hid hB
    have HJr := Lib.hid hJ
    rw [← HM.out] at p0
    clear hS hB hJ
    by_cases hlt : j < m
    · obtain ⟨c, hc⟩ : ∃ c, s.cells[j]? = some c := ⟨_, List.getElem?_eq_getElem (by rw [← HM.out]; exact hlt)⟩
      have c0 := HSr.out.c0 hc
      cases ht : c.taken with
      | true =>
        rw [ht] at c0
        obtain ⟨fn, tmps, assign, body, hy, hR⟩ := hY (takenTo s j) ⟨(j, c), hc⟩ wr HJr.out (by have := takenTo_len s j; have := HM.out; omega)
        have HE := Lib.hid (takenTo_yes hc ht)
        have HR := Lib.hid hR
        clear hR ht
        dsimp only at hy
        gi_wp2
        refine HR.out.mono ?_
        rintro e W3 (⟨rfl, hJ3, hk3⟩ | ⟨rfl, hJx3⟩)
        · have R : Hid (J (takenTo s (j + 1)) W3 ∧ IsSlab W3 bP bC bF k s ∧ Has W3 Bn 25 [.pointer (some ⟨bP, 0, none⟩)]) := ⟨by rw [HE.out]; exact hJ3, HSr.out.keeps hk3 HX.out, HBr.out.keeps hk3 HBX.out.1 HBX.out.2⟩
          clear hJ3 hk3
          gi_wp2
          go_roundw
          case rel => exact ⟨j + 1, by omega, by go_num, R.out⟩
          case measure => simp [intOf]; omega
        · gi_wp2
          refine bodyPost_ret (results_none rfl _ _ _) rfl ?_
          exact ⟨⟨_, rfl⟩, .inr ⟨_, by have := takenTo_len s j; have := HM.out; simp; omega, hJx3⟩⟩
      | false =>
        rw [ht] at c0
        have HE := Lib.hid (takenTo_no hc ht)
        clear ht
        gi_wp2
        refine ⟨fun _ h => (by cases h), ?_⟩
        gi_wp2
        go_roundw
        case rel => exact ⟨j + 1, by omega, by go_num, by rw [HE.out]; exact HJr.out, HSr.out, HBr.out⟩
        case measure => simp [intOf]; omega
    · gi_wp2
      go_end0
      exact ⟨⟨_, rfl⟩, .inl ⟨_, by rw [← HM.out, show m = j by omega], HJr.out⟩⟩

set_option maxHeartbeats 1000000 in
theorem taken_in (F : Fence) (n : Nat) (hF : F.fn 32) (hro : F.round = none) (p : Option Addr) (w : World) :
    CallsIn F n Try.prog 32 #[.pointer p] w fun e w' => e = .returned (.func (.func 33) #[] #[.pointer (some ⟨w.heap.size, 0, none⟩)]) ∧ w' = w.alloc (.cells #[.pointer p] 25) := by
  refine callsIn_of_wp Try.func32 rfl hF ?_ hro
  simp only [Try.ntmps32, List.size_toArray, List.length_cons, List.length_nil, Nat.reduceAdd, Nat.reduceSub, Array.replicate_succ, Array.replicate_zero, List.push_toArray, List.append_toArray, List.nil_append, List.cons_append]
  gi_wp2
  go_ret
  exact ⟨rfl, rfl⟩
theorem taken_stops (F : Fence) (n : Nat) (hF : F.fn 33) (hro : F.round = none) (hn : 1 ≤ n) (Bn n₁ x bP bC bF k : Nat) (s : Sl) (w : World) (hx : ∀ b, foot bP bC bF s b → b < n₁ ∧ b ≠ x) (hBx : Bn < n₁ ∧ Bn ≠ x) (hB : Has w Bn 25 [.pointer (some ⟨bP, 0, none⟩)]) (hS : IsSlab w bP bC bF k s) :
    SeqStopsK F n Try.prog 33 #[.pointer (some ⟨Bn, 0, none⟩)] (fun p : LC s => #[Value.int .i64 (p.1.1 : Int)]) (Keeps n₁ x) (fun ys => ys = takenTo s s.cells.length) (fun pre => pre.length ≤ s.cells.length) s.cells.length w := fun l J Jx W hW _ _ hY h0 =>
  taken1_in F n hF hro hn l Bn n₁ x bP bC bF k s J Jx hx hBx hY W (hB.below hW hB.lt) (hS.below hW) h0
end Go.Proofs.Ytbmapjbjpgoibaa
