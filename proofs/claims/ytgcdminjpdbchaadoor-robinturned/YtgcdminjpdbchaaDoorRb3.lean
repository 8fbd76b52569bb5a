/- The keys of a table, gone through by a range over a function: the iterator's contract; Len. -/
import Derived.Test.YtgcdminjpdbchaaDoorRb2
import Derived.RangeFuncNested
import Derived.RangeFuncBound
import Derived.RangeFuncCalls
import Derived.RangeFuncLeaves
import Derived.RangeFuncBox
import Derived.Shelf.Abstract
import Derived.Shelf.RegionOpen
import Derived.OwnWalkIn
import Derived.TacticsInMore
import Derived.LoopNIn
import Derived.LoopIn
import Derived.Maps.AppendAt
import Derived.Deep.AppendLies
namespace Go.Proofs.YtgcdminjpdbchaaDoor
open Go.ChangeShapes Go.WideShapes Go.ChangeAt Go.RowKit Go.Shelf
set_option linter.unusedVariables false
attribute [local go_sem] Oper.semAt_some

/-- The slots that are used, of the first j. -/
def usedL (s : List RS) (j : Nat) : List RS := (s.take j).filter fun x => x.u
theorem usedL_yes {s : List RS} {j : Nat} (hj : j < s.length) (h : (atS s j).u = true) : usedL s (j + 1) = usedL s j ++ [atS s j] := by
  unfold usedL
  rw [List.take_add_one, atS_get hj, Option.toList_some, List.filter_append]
  simp [h]
theorem usedL_no {s : List RS} {j : Nat} (hj : j < s.length) (h : (atS s j).u = false) : usedL s (j + 1) = usedL s j := by
  unfold usedL
  rw [List.take_add_one, atS_get hj, Option.toList_some, List.filter_append]
  simp [h]
theorem usedL_len (s : List RS) (j : Nat) : (usedL s j).length ≤ j := Nat.le_trans (List.length_filter_le _ _) (List.length_take_le _ _)
/-- All cells of these blocks are kept. -/
def KeepS (S : Nat → Prop) (W W' : World) : Prop := ∀ k c t fr, S k → W.heap[k]? = some (.cells c t fr) → W'.heap[k]? = some (.cells c t fr)
theorem KeepS.trans {S : Nat → Prop} {A B C : World} (h : KeepS S A B) (k : KeepS S B C) : KeepS S A C := fun i c t fr hs hc => k i c t fr hs (h i c t fr hs hc)
theorem KeepS.putObj {S : Nat → Prop} {W : World} {l : Nat} {o : Obj} (o' : Obj) (hl : W.heap[l]? = some o) (ho : o.isCells = false) : KeepS S W (W.putObj l o') := fun k c t fr _ hc => by
  have hne : k ≠ l := fun e => by subst e; rw [hl] at hc; injection hc with e; subst e; cases ho
  rw [World.putObj_heap_other hne]; exact hc
theorem has_keepS {S : Nat → Prop} {W W' : World} {g : Nat} {t : TypeId} {ls : List Value} (h : Has W g t ls) (hk : KeepS S W W') (hs : S g) : Has W' g t ls := hk g _ _ _ hs h
theorem keepS_set {S : Nat → Prop} {W : World} {B : Nat} (hB : ¬ S B) (u : Value) : KeepS S W (W.setCell ⟨B, 0, none⟩ u) := fun c cs t fr hc hh => by
  rw [Below.heap_setCell _ _ _ _ (fun e : c = B => hB (e ▸ hc))]; exact hh
/-- What the iterator reads. -/
structure GoT (W : World) (Bn bP bS seed bits n : Nat) (s : List RS) : Prop where
  b : Has W Bn 26 [.pointer (some ⟨bP, 0, none⟩)]
  t : IsTb W bP bS seed bits n s
def SR (Bn bP bS c : Nat) : Prop := c = Bn ∨ c = bP ∨ c = bS
section
variable {W W' : World} {Bn bP bS seed bits n : Nat} {s : List RS}
theorem GoT.below (h : GoT W Bn bP bS seed bits n s) (hb : Below W.heap.size W W') : GoT W' Bn bP bS seed bits n s := ⟨h.b.below hb h.b.lt, h.t.below hb⟩
theorem GoT.keeps (h : GoT W Bn bP bS seed bits n s) (hk : KeepS (SR Bn bP bS) W W') : GoT W' Bn bP bS seed bits n s := ⟨has_keepS h.b hk (.inl rfl), ⟨has_keepS h.t.hd hk (.inr (.inl rfl)), has_keepS h.t.sl hk (.inr (.inr rfl)), h.t.le, h.t.ne⟩⟩
end
set_option maxRecDepth 100000 in
set_option maxHeartbeats 1000000 in
theorem used1_in (nn : Nat) (hn1 : 1 ≤ nn) (l Bn bP bS seed bits n : Nat) (s : List RS) (hn : n ≤ 256) (J Jx : List RS → World → Prop)
    (hY : ∀ pre (x : RS) W, J pre W → pre.length < n → YieldAt Fence.wide (nn - 1) Tryd.prog l #[.string x.k] W fun e W' =>
      (e = .returned (.bool true) ∧ J (pre ++ [x]) W' ∧ KeepS (SR Bn bP bS) W W') ∨ (e = .returned (.bool false) ∧ Jx (pre ++ [x]) W'))
    (W : World) (hG : GoT W Bn bP bS seed bits n s) (h0 : J [] W) :
    CallsIn Fence.wide nn Tryd.prog 38 #[.func (.yield l) #[] #[], .pointer (some ⟨Bn, 0, none⟩)] W fun e W' => (∃ v, e = .returned v) ∧
      ((∃ ys, ys = usedL s n ∧ J ys W') ∨ (∃ pre, pre.length ≤ n ∧ Jx pre W')) := by
  have b0 := hG.b.cell 0
  have p0 := hG.t.p2
  simp at b0
  have HG := Lib.hid hG
  have H0 := Lib.hid h0
  have HLE := Lib.hid hG.t.le
  clear hG h0
  refine callsIn_of_wp Tryd.func38 rfl trivial ?_ rfl
  simp only [Tryd.ntmps38, List.size_toArray, List.length_cons, List.length_nil, Nat.reduceAdd, Nat.reduceSub, Array.replicate_succ, Array.replicate_zero, List.push_toArray, List.append_toArray, List.nil_append, List.cons_append]
  gi_wp2
  gi_loopw [11] (fun i wr => ∃ j : Nat, j ≤ n ∧ i = .int .i64 (j : Int) ∧ J (usedL s j) wr ∧ GoT wr Bn bP bS seed bits n s) (fun i _ => n - (intOf i).toNat)
  case atStart => exact ⟨0, Nat.zero_le _, rfl, H0.out, HG.out⟩
  case round =>
    obtain ⟨j, hj, rfl, hJ, hG⟩ := hrel
    clear b0 p0
    have b0 := hG.b.cell 0
    simp at b0
    have p0 := hG.t.p2
    have HGr := Lib.hid hG
    have HJr := Lib.hid hJ
    clear hG hJ
    by_cases hlt : j < n
    · have c0 := HGr.out.t.c0 hlt
      have c1 := HGr.out.t.c1 hlt
      have hlt2 : j < s.length := by rw [HLE.out]; exact hlt
      cases ht : (atS s j).u with
      | true =>
        rw [ht] at c0
        obtain ⟨fn, tmps, assign, body, hy, hR⟩ := hY (usedL s j) (atS s j) wr HJr.out (by have := usedL_len s j; omega)
        have HE := Lib.hid (usedL_yes hlt2 ht)
        have HR := Lib.hid hR
        clear hR ht
        generalize (atS s j).k = key at *
        gi_wp2
        refine HR.out.mono ?_
        rintro e W3 (⟨rfl, hJ3, hk3⟩ | ⟨rfl, hJx3⟩)
        · have R : Hid (J (usedL s (j + 1)) W3 ∧ GoT W3 Bn bP bS seed bits n s) := ⟨by rw [HE.out]; exact hJ3, HGr.out.keeps hk3⟩
          clear hJ3 hk3
          gi_wp2
          go_roundw
          case rel => exact ⟨j + 1, by omega, by go_num, R.out⟩
          case measure => simp [intOf]; omega
        · gi_wp2
          refine bodyPost_ret (results_none rfl _ _ _) rfl ?_
          exact ⟨⟨_, rfl⟩, .inr ⟨_, by have := usedL_len s j; simp; omega, hJx3⟩⟩
      | false =>
        rw [ht] at c0
        have HE := Lib.hid (usedL_no hlt2 ht)
        clear ht
        gi_wp2
        refine ⟨fun _ h => (by cases h), ?_⟩
        gi_wp2
        go_roundw
        case rel => exact ⟨j + 1, by omega, by go_num, by rw [HE.out]; exact HJr.out, HGr.out⟩
        case measure => simp [intOf]; omega
    · gi_wp2
      go_end0
      exact ⟨⟨_, rfl⟩, .inl ⟨_, by rw [show n = j by omega], HJr.out⟩⟩
theorem used_stops (nn : Nat) (hn1 : 1 ≤ nn) (Bn bP bS seed bits n : Nat) (s : List RS) (hn : n ≤ 256) (w : World) (hG : GoT w Bn bP bS seed bits n s) :
    SeqStopsK Fence.wide nn Tryd.prog 38 #[.pointer (some ⟨Bn, 0, none⟩)] (fun x : RS => #[Value.string x.k]) (KeepS (SR Bn bP bS)) (fun ys => ys = usedL s n) (fun pre => pre.length ≤ n) n w := fun l J Jx W hW _ _ hY h0 =>
  used1_in nn hn1 l Bn bP bS seed bits n s hn J Jx hY W (hG.below hW) h0
set_option maxHeartbeats 1000000 in
theorem used_in (nn : Nat) (p : Option Addr) (w : World) :
    CallsIn Fence.wide nn Tryd.prog 29 #[.pointer p] w fun e w' => e = .returned (.func (.func 38) #[] #[.pointer (some ⟨w.heap.size, 0, none⟩)]) ∧ w' = w.alloc (.cells #[.pointer p] 26) := by
  refine callsIn_of_wp Tryd.func29 rfl trivial ?_ rfl
  simp only [Tryd.ntmps29, List.size_toArray, List.length_cons, List.length_nil, Nat.reduceAdd, Nat.reduceSub, Array.replicate_succ, Array.replicate_zero, List.push_toArray, List.append_toArray, List.nil_append, List.cons_append]
  gi_wp2
  go_ret
  exact ⟨rfl, rfl⟩
/-- Between two rounds. -/
def LenI (w : World) (pre : List RS) (W : World) : Prop := Boxed W w.heap.size 3 (.int .i64 (pre.length : Int)) ∧ Below w.heap.size w W
set_option maxRecDepth 100000 in
set_option maxHeartbeats 2000000 in
theorem Len_any (bP bS seed bits n : Nat) (s : List RS) (w : World) (h : IsTb w bP bS seed bits n s) (hn : n ≤ 256) :
    Calls Tryd.prog 15 #[.pointer (some ⟨bP, 0, none⟩)] w fun e w' => e = .returned (.int .i64 ((usedL s n).length : Int)) ∧ Below w.heap.size w w' := by
  have H := Lib.hid h
  obtain ⟨hb1, hb2⟩ := h.lt
  clear h
  refine (callsIn_wide (n := 4)).1 ?_
  refine callsIn_of_wp_marks Tryd.func15 rfl trivial ?_ rfl
  simp only [Tryd.ntmps15, List.size_toArray, List.length_cons, List.length_nil, Nat.reduceAdd, Nat.reduceSub, Array.replicate_succ, Array.replicate_zero, List.push_toArray, List.append_toArray, List.nil_append, List.cons_append]
  gi_wp2
  refine ⟨trivial, ?_⟩
  refine (used_in _ _ _).mono ?_
  rintro e w1 ⟨rfl, rfl⟩
  gi_wp2
  obtain ⟨W0, hW0⟩ : ∃ W0, ((w.alloc (.cells #[.int .i64 0] 3)).alloc (.cells #[.pointer (some ⟨bP, 0, none⟩)] 26)) = W0 := ⟨_, rfl⟩
  rw [hW0]
  have hsz : W0.heap.size = w.heap.size + 1 + 1 := by rw [← hW0]; simp
  have hB0 : Below w.heap.size w W0 := by rw [← hW0]; exact ((Below.refl _ w).alloc (Nat.le_refl _) _).alloc (by simp) _
  have bO : Boxed W0 w.heap.size 3 (.int .i64 0) := by rw [← hW0]; exact (Boxed.new w 3 (.int .i64 0)).alloc _
  have bN : Has W0 (w.heap.size + 1) 26 [.pointer (some ⟨bP, 0, none⟩)] := by
    have := Has.made (w.alloc (.cells #[.int .i64 0] 3)) 26 [.pointer (some ⟨bP, 0, none⟩)]
    rw [World.size_alloc] at this
    rw [← hW0]
    exact this
  have hG0 : GoT W0 (w.heap.size + 1) bP bS seed bits n s := ⟨bN, H.out.below hB0⟩
  have hI : OwnFrom W0.heap.size (LenI w) := OwnFrom.and (Own.from (boxed_own _ _ (fun (pre : List RS) => Value.int .i64 (pre.length : Int))) _) (ownFrom_below (Nat.le_refl _) (by omega))
  have hI0 : LenI w [] W0 := ⟨bO, hB0⟩
  have hseq := used_stops (4 - 1) (by omega) (w.heap.size + 1) bP bS seed bits n s hn W0 hG0
  have hNS : ¬ SR (w.heap.size + 1) bP bS w.heap.size := by rintro (e | e | e) <;> omega
  clear hW0
  refine wpIn_rangeFunc_ownG (F := Fence.wide) (n := 4) (w := W0) rfl (by omega) (gf := 38) (lb := #[.pointer (some ⟨w.heap.size + 1, 0, none⟩)]) rfl trivial (enters_of Tryd.func38 (by kernel_rfl) rfl)
    hseq (fun h k => h.trans k) (fun W l o o' _ hl ho _ => KeepS.putObj o' hl ho) (Below.refl _ _) (fun _ => rfl)
    (LenI w) (fun _ _ _ => False) hI (fun _ _ _ _ _ hs _ _ => hs) hI0
    (fun x => { tmps := #[.pointer (some ⟨bP, 0, none⟩), undef, .int .i64 0, .pointer (some ⟨w.heap.size, 0, none⟩), .pointer (some ⟨bP, 0, none⟩), .func (.func 38) #[] #[.pointer (some ⟨w.heap.size + 1, 0, none⟩)], .string x.k, undef, undef, undef], defers := [] }) ?assign ?body ?done ?stop
  case assign =>
    intro l x W K hK
    gi_wp2
    simpa using hK
  case body =>
    rintro l pre x W ⟨hN, hB⟩ hlp
    have cN := hN.cell
    have fN := hN.frozen
    have HN := Lib.hid hN
    have HB := Lib.hid hB
    have NS := Lib.hid hNS
    have hl2 : pre.length < 256 := by omega
    have E := Lib.hid (show ((pre ++ [x]).length : Int) = (pre.length : Int) + 1 by simp)
    clear hN hB hNS
    generalize pre.length = c at *
    gi_wp2
    refine ⟨(KeepsOthers.setCell _ _ _).from _, keepS_set NS.out _, ?_, HB.out.setCell (p := ⟨_, 0, none⟩) (by show _ ≤ _; simp) _⟩
    rw [E.out]
    exact HN.out.set _
  case done =>
    rintro D ys W hD rfl ⟨hN, hB⟩ hK
    have cN := hN.cell
    gi_wp2
    refine ⟨by simp, .inl ⟨_, _, rfl, run_takeDeferred hK, ?_⟩⟩
    exact ⟨_, results_tmp rfl _ _ _, rfl, hB.trans (belowK_b (w := w) (Nat.le_refl _) W D _ _ (by omega) hK rfl rfl)⟩
  case stop =>
    rintro D c pre W _ _ h _
    exact h.elim
end Go.Proofs.YtgcdminjpdbchaaDoor
