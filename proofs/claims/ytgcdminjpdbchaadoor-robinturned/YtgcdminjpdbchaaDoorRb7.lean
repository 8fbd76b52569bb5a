/- The contract of a table's Keys, given the contract of the sort. -/
import Derived.Test.YtgcdminjpdbchaaDoorRb6
import Derived.Sort.OwnSorted
import Derived.Sort.KeysCollected
import Derived.Sort.Grow
namespace Go.Proofs.YtgcdminjpdbchaaDoor
open Go.ChangeShapes Go.WideShapes Go.ChangeAt Go.RowKit Go.Shelf Go.Sort
set_option linter.unusedVariables false
attribute [local go_sem] Oper.semAt_some

theorem Tryd.infoStr : (Tryd.prog.info? 9).map (fun i => (i.zero, i.size, i.bytes)) = some (some (.string ByteArray.empty), 1, 16) := by kernel_rfl
/-- What the sort does with a list of one's own. -/
def SortsStr : Prop := ∀ (blk off cap : Nat) (ss : List (List UInt8)) (w : World), Holds encStr w blk off ss.toArray → blk < w.heap.size → ss.length < 4611686018427387904 →
    Calls Tryd.prog 30 #[.slice (some ⟨blk, off, none⟩) ss.length cap] w fun e w' =>
      e = .returned (.tuple #[]) ∧ ∃ n os, w' = grow (putRow encStr (Sort.ahead w n) blk off (ss.mergeSort fun x y => decide (x ≤ y)).toArray) os
theorem ins_nil (w : World) : Calls Tryd.prog 42 #[.slice none 0 0, .int .i64 0, .int .i64 0] w fun e w' => e = .returned (.tuple #[]) ∧ w = w' := by
  go_enter Tryd.func42, Tryd.ntmps42
  go_wp2_with fail
  refine wp_loop_rounds 1 ?_
  rw [rounds_succ]
  go_wp2
  go_returns
  exact ⟨rfl, rfl⟩
theorem pdq_nil (w : World) : Calls Tryd.prog 39 #[.slice none 0 0, .int .i64 0, .int .i64 0, .int .i64 0] w fun e w' => e = .returned (.tuple #[]) ∧ w = w' := by
  go_enter Tryd.func39, Tryd.ntmps39
  go_wp2_with fail
  refine wp_loop_rounds 1 ?_
  rw [rounds_succ]
  go_wp2_with fail
  refine (ins_nil w).mono ?_
  rintro e w1 ⟨rfl, rfl⟩
  go_wp2
  go_returns
  exact ⟨rfl, rfl⟩
set_option maxRecDepth 100000 in
theorem Len64_0 (w : World) : Calls Tryd.prog 52 #[.int .u64 0] w fun e w' => e = .returned (.int .i64 0) ∧ w = w' := by
  go_enter Tryd.func52, Tryd.ntmps52
  go_wp2
  go_ret
  exact ⟨by kernel_rfl, rfl⟩
theorem Len_0 (w : World) : Calls Tryd.prog 40 #[.int .u64 0] w fun e w' => e = .returned (.int .i64 0) ∧ w = w' := by
  go_enter Tryd.func40, Tryd.ntmps40
  go_wp2_with fail
  refine (Len64_0 w).mono ?_
  rintro e w1 ⟨rfl, rfl⟩
  go_wp2
  go_ret
  exact ⟨rfl, rfl⟩
theorem Sort_nil (w : World) : Calls Tryd.prog 30 #[.slice none 0 0] w fun e w' => e = .returned (.tuple #[]) ∧ w = w' := by
  go_enter Tryd.func30, Tryd.ntmps30
  go_wp2_with fail
  refine (Len_0 w).mono ?_
  rintro e w1 ⟨rfl, rfl⟩
  go_wp2_with fail
  refine (pdq_nil w).mono ?_
  rintro e w1 ⟨rfl, rfl⟩
  go_wp2
  go_returns
  exact ⟨rfl, rfl⟩
def kB (x : RS) : List UInt8 := x.k.data.toList
theorem encStr_kB (x : RS) : encStr (kB x) = .string x.k := by unfold kB; simp [encStr]
/-- A list of strings of a call's own. -/
def StrsTold (ss : List (List UInt8)) (w : World) (e : Ending) (w' : World) : Prop := ∃ v, e = .returned v ∧ w'.ownsRow w.heap.size 9 1 v ss.length (ss.map encStr) ∧ (v = .slice none 0 0 ↔ ss = []) ∧ Below w.heap.size w w'
/-- Between two rounds. -/
def KeysI (w : World) (pre : List RS) (W : World) : Prop :=
  (∃ v, Boxed W w.heap.size 41 v ∧ W.ownsRow (w.heap.size + 1 + 1) 9 1 v pre.length ((pre.map kB).map encStr) ∧ (v = .slice none 0 0 ↔ pre = [])) ∧ Below w.heap.size w W ∧ w.heap.size + 1 + 1 ≤ W.heap.size
theorem keysI_own (w W0 : World) (h : w.heap.size ≤ W0.heap.size) : OwnFrom W0.heap.size (KeysI w) := fun pre W W' row h0 hg hr => by
  obtain ⟨h1, h4, h5⟩ := h0
  have hr2 : ∀ r, row = some r → ∃ o : Obj, W.heap[r]? = some o ∧ o.isCells = false := fun r e => (hr r e).2
  have k1 : ∀ B t u, Boxed W B t u → Boxed W' B t u := fun B t u h => h.kept hg (fun e' => by obtain ⟨o, ho, hc⟩ := hr2 B e'.symm; rw [show W.heap[B]? = _ from h] at ho; cases ho; cases hc)
  obtain ⟨v, hv, hrw, hG⟩ := h1
  have hrw' : W'.ownsRow (w.heap.size + 1 + 1) 9 1 v pre.length ((pre.map kB).map encStr) := by
    refine hrw.kept hg ?_
    rcases hrw.2 with ⟨rfl, _⟩ | ⟨g, cap, cur, rfl, _, hgb, _⟩
    · exact .inl rfl
    · refine .inr fun e' => ?_
      obtain ⟨o, ho, hc⟩ := hr2 g (by simpa [Value.ownBlock] using e'.symm)
      rw [hgb] at ho; cases ho; cases hc
  exact ⟨⟨v, k1 _ _ _ hv, hrw', hG⟩, h4.grown hg (Nat.le_trans (Nat.le_refl _) h4.size) (fun r e => Nat.le_trans h (hr r e).1), Nat.le_trans h5 hg.size⟩
theorem ownsRow_lower {w : World} {b b' : Nat} {e : TypeId} {size : Nat} {v : Value} {n : Nat} {xs : List Value} (h : w.ownsRow b e size v n xs) (hb : b' ≤ b) : w.ownsRow b' e size v n xs := by
  obtain ⟨h1, h2 | ⟨g, cap, cur, e1, e2, e3⟩⟩ := h
  · exact ⟨h1, .inl h2⟩
  · exact ⟨h1, .inr ⟨g, cap, cur, e1, Nat.le_trans hb e2, e3⟩⟩
theorem ownsRow_one {w : World} {b : Nat} {e : TypeId} {v : Value} {n : Nat} {xs : List Value} (h : w.ownsRow b e 1 v (n + 1) xs) : ∃ g cap, v = .slice (some ⟨g, 0, none⟩) (n + 1) cap := by
  rcases h.2 with ⟨_, h2⟩ | ⟨g, cap, cur, rfl, _⟩
  · cases h2
  · exact ⟨g, cap, rfl⟩
/-- What a round's append and store make. -/
theorem keys_round {w W w1 : World} {bP bS : Nat} {pre : List RS} {x : RS} {v v' : Value} {tmp : Obj} {B0 : Nat} (hb1 : bP < w.heap.size) (hb2 : bS < w.heap.size)
    (hv : Boxed W w.heap.size 41 v) (hrow : W.ownsRow (w.heap.size + 1 + 1) 9 1 v pre.length ((pre.map kB).map encStr)) (hB : Below w.heap.size w W) (h5 : w.heap.size + 1 + 1 ≤ W.heap.size)
    (hown' : w1.ownsRow (w.heap.size + 1 + 1) 9 1 v' (pre.length + 1) ((pre.map kB).map encStr ++ [.string x.k])) (hgrow : (W.alloc tmp).grownBy w1 v.ownBlock) :
    Boxed w1 w.heap.size 41 v ∧ KeepsFrom B0 W (w1.setCell ⟨w.heap.size, 0, none⟩ v') ∧ KeepS (SR (w.heap.size + 1) bP bS) W (w1.setCell ⟨w.heap.size, 0, none⟩ v') ∧ KeysI w (pre ++ [x]) (w1.setCell ⟨w.heap.size, 0, none⟩ v') := by
  have hrow2 := ownsRow_lower hrow (b' := w.heap.size) (by omega)
  have hown2 := ownsRow_lower hown' (b' := w.heap.size) (by omega)
  obtain ⟨hv1, hv2, hr2, hk2, hb3⟩ := hv.appended (by decide) hrow2 (by omega) (Nat.le_refl _) hown2 hgrow
  have hob : ∀ b, some b = v.ownBlock → w.heap.size + 1 + 1 ≤ b := fun b hb => by
    rcases hrow.2 with ⟨rfl, _⟩ | ⟨g, cap, cur, rfl, hg, _⟩
    · simp [Value.ownBlock] at hb
    · have : b = g := by simpa [Value.ownBlock] using hb
      omega
  have hkeep : KeepS (SR (w.heap.size + 1) bP bS) W (w1.setCell ⟨w.heap.size, 0, none⟩ v') := fun b c t fr hs hc => by
    have hbl : b < w.heap.size + 1 + 1 ∧ b ≠ w.heap.size := by rcases hs with e | e | e <;> omega
    rw [Below.heap_setCell _ _ _ _ hbl.2, hgrow.block b (by simp; omega) (fun e => by have := hob b e; omega), Below.heap_alloc _ _ _ (by omega)]
    exact hc
  have hown3 : (w1.setCell ⟨w.heap.size, 0, none⟩ v').ownsRow (w.heap.size + 1 + 1) 9 1 v' (pre.length + 1) ((pre.map kB).map encStr ++ [.string x.k]) :=
    hown'.kept (grownBy_setCell' w1 _ v') (.inr (hv1.not_row (by decide) hown').symm)
  refine ⟨hv1, hk2.from _, hkeep, ⟨v', hv2, ?_, ?_⟩, hB.trans hb3, ?_⟩
  · have := hown3
    rw [← encStr_kB] at this
    simpa using this
  · obtain ⟨g, cap, rfl⟩ := ownsRow_one hown'
    simp
  · have := hgrow.size
    simp [World.setCell] at this ⊢
    omega
set_option maxRecDepth 100000 in
set_option maxHeartbeats 2000000 in
theorem Keys_any (SORT : SortsStr) (bP bS seed bits n : Nat) (s : List RS) (w : World) (h : IsTb w bP bS seed bits n s) (hn : n ≤ 256) :
    Calls Tryd.prog 17 #[.pointer (some ⟨bP, 0, none⟩)] w (StrsTold (((usedL s n).map kB).mergeSort fun x y => decide (x ≤ y)) w) := by
  have H := Lib.hid h
  obtain ⟨hb1, hb2⟩ := h.lt
  obtain ⟨i0, hi, hz0, hz1, hz2⟩ := info_parts Tryd.infoStr
  clear h
  refine (callsIn_wide (n := 4)).1 ?_
  refine callsIn_of_wp_marks Tryd.func17 rfl trivial ?_ rfl
  simp only [Tryd.ntmps17, List.size_toArray, List.length_cons, List.length_nil, Nat.reduceAdd, Nat.reduceSub, Array.replicate_succ, Array.replicate_zero, List.push_toArray, List.append_toArray, List.nil_append, List.cons_append]
  gi_wp2_with (refine ⟨trivial, ?_⟩; gi_at_call 29; refine (used_in _ _ _).mono ?_; rintro e w' ⟨rfl, rfl⟩)
  obtain ⟨W0, hW0⟩ : ∃ W0, ((w.alloc (.cells #[.slice none 0 0] 41)).alloc (.cells #[.pointer (some ⟨bP, 0, none⟩)] 26)) = W0 := ⟨_, rfl⟩
  rw [hW0]
  have hsz : W0.heap.size = w.heap.size + 1 + 1 := by rw [← hW0]; simp
  have hB0 : Below w.heap.size w W0 := by rw [← hW0]; exact ((Below.refl _ w).alloc (Nat.le_refl _) _).alloc (by simp) _
  have bO : Boxed W0 w.heap.size 41 (.slice none 0 0) := by rw [← hW0]; exact (Boxed.new w 41 (.slice none 0 0)).alloc _
  have bN : Has W0 (w.heap.size + 1) 26 [.pointer (some ⟨bP, 0, none⟩)] := by
    have := Has.made (w.alloc (.cells #[.slice none 0 0] 41)) 26 [.pointer (some ⟨bP, 0, none⟩)]
    rw [World.size_alloc] at this
    rw [← hW0]
    exact this
  have hG0 : GoT W0 (w.heap.size + 1) bP bS seed bits n s := ⟨bN, H.out.below hB0⟩
  have hI : OwnFrom W0.heap.size (KeysI w) := keysI_own w W0 (by omega)
  have hI0 : KeysI w [] W0 := ⟨⟨_, bO, World.ownsRow_nil _ _ _ _, by simp⟩, hB0, by omega⟩
  have hseq := used_stops (4 - 1) (by omega) (w.heap.size + 1) bP bS seed bits n s hn W0 hG0
  have hNS : ¬ SR (w.heap.size + 1) bP bS w.heap.size := by rintro (e | e | e) <;> omega
  clear hW0
  refine wpIn_rangeFunc_ownG (F := Fence.wide) (n := 4) (w := W0) rfl (by omega) (gf := 38) (lb := #[.pointer (some ⟨w.heap.size + 1, 0, none⟩)]) rfl trivial (enters_of Tryd.func38 (by kernel_rfl) rfl)
    hseq (fun h k => h.trans k) (fun W l o o' _ hl ho _ => KeepS.putObj o' hl ho) (Below.refl _ _) (fun _ => rfl)
    (KeysI w) (fun _ _ _ => False) hI (fun _ _ _ _ _ hs _ _ => hs) hI0
    (fun x => { tmps := #[.pointer (some ⟨bP, 0, none⟩), undef, .slice none 0 0, .pointer (some ⟨w.heap.size, 0, none⟩), .string x.k, .pointer (some ⟨bP, 0, none⟩), .func (.func 38) #[] #[.pointer (some ⟨w.heap.size + 1, 0, none⟩)], .string x.k, undef, undef, undef, undef, undef, undef, undef], defers := [] }) ?assign ?body ?done ?stop
  case assign =>
    intro l x W K hK
    gi_wp2
    simpa using hK
  case body =>
    rintro l pre x W ⟨⟨v, hv, hrow, hnil⟩, hB, h5⟩ hlp
    have hl2 : pre.length < 256 := by omega
    have cN := hv.cell
    have fN := hv.frozen
    have HROW := Lib.hid hrow
    have HR := Lib.hid (fun w1 v' tmp => keys_round (B0 := W0.heap.size) (w1 := w1) (v' := v') (tmp := tmp) (x := x) hb1 hb2 hv hrow hB h5)
    clear hrow hnil hv hB
    gi_wp2_with (gi_at_builtin; refine wpListIn_append_own _ rfl _ _ 41 rfl (w.heap.size + 1 + 1) 9 i0 (.string ByteArray.empty) 1 16 Tryd.underlying41 hi hz0 hz1 hz2 rfl (by decide) v pre.length _ rfl (HROW.out.alloc _) ⟨W.heap.size, 0, none⟩ 1 1 [.string x.k] rfl rfl (cell_one_new _ _ _) (by simp [Value.oneCell']) (by unfold maxLen; omega) (by omega) (by simp; omega) ?_
                 intro v' w1 hown' hgrow _
                 obtain ⟨g', cap', rfl⟩ := ownsRow_one hown'
                 obtain ⟨hv1, r2, r3, r4⟩ := HR.out w1 _ _ hown' hgrow
                 have hc1 := hv1.cell
                 have hf1 := hv1.frozen
                 have R := Lib.hid (And.intro r2 (And.intro r3 r4))
                 clear r2 r3 r4 hown' hgrow hv1)
    exact R.out
  case done =>
    rintro D ys W hD rfl ⟨⟨v, hv, hrow, hnil⟩, hB, h5⟩ hK
    have hlen := usedL_len s n
    obtain ⟨ss, hss⟩ : ∃ ss, ss = (usedL s n).map kB := ⟨_, rfl⟩
    have hl : (usedL s n).length = ss.length := by rw [hss, List.length_map]
    have hE : usedL s n = [] ↔ ss = [] := by rw [hss, List.map_eq_nil_iff]
    have hso : (ss.mergeSort fun x y => decide (x ≤ y)).length = ss.length := by simp
    have hso2 : (ss.mergeSort fun x y => decide (x ≤ y)) = [] ↔ ss = [] := by rw [← List.length_eq_zero_iff, hso, List.length_eq_zero_iff]
    rw [← hss, hl] at hrow
    rw [hE] at hnil
    rw [hl] at hlen
    have HSS := Lib.hid hss
    clear hss hl hE
    have hvb := hv
    have cN := hv.cell
    rcases hrow.2 with ⟨rfl, _⟩ | ⟨g, cap, cur, rfl, hbase, hb, q1, q2, q3, q4⟩
    · obtain rfl : ss = [] := hnil.1 rfl
      have HROW := Lib.hid hrow
      have HK := Lib.hid hK
      have HB := Lib.hid hB
      clear hrow hK hB hv hvb hnil hso hso2
      gi_wp2_with (refine ⟨trivial, ?_⟩; gi_at_call 30; refine (callsIn_wide.2 (Sort_nil _)).mono ?_; rintro e w' ⟨rfl, rfl⟩)
      refine ⟨by simp, .inl ⟨_, _, rfl, run_takeDeferred HK.out, ?_⟩⟩
      refine ⟨_, results_tmp rfl _ _ _, ?_⟩
      rw [← HSS.out]
      refine ⟨.slice none 0 0, rfl, ?_, by simp, HB.out.trans (belowK_b (w := w) (Nat.le_refl _) W D _ _ (by omega) HK.out rfl rfl)⟩
      simpa using World.ownsRow_nil _ _ _ _
    · have hgD : D ≠ g := fun e => by rw [e, hb] at hK; cases hK
      have hgS := (Array.getElem?_eq_some_iff.1 hb).1
      have hDS := (Array.getElem?_eq_some_iff.1 hK).1
      have HS := Lib.hid (SORT g 0 cap ss W (holds_of_block hb (by simpa using q4)) hgS (by omega))
      have HF := Lib.hid (fun (nn : Nat) (os : Array Obj) => And.intro (hvb.kept (grownBy_sorted (w := W) (g := g) (n := nn) (os := os) (ss.mergeSort fun x y => decide (x ≤ y)).toArray) (by simp; omega))
        (And.intro ((((grownBy_sorted (w := W) (g := g) (n := nn) (os := os) (ss.mergeSort fun x y => decide (x ≤ y)).toArray).block D hDS (by simpa using hgD)).trans hK))
        (And.intro (hB.grown (grownBy_sorted (w := W) (g := g) (n := nn) (os := os) (ss.mergeSort fun x y => decide (x ≤ y)).toArray) (by omega) (fun j hj => by cases hj; omega))
          (ownsRow_sorted (n := nn) (os := os) (e := 9) hso (show w.heap.size ≤ g by omega) hb q1 q2 q3))))
      clear hrow hK hB hv hvb hb q4
      gi_wp2_with (refine ⟨trivial, ?_⟩; gi_at_call 30; refine (callsIn_wide.2 HS.out).mono ?_; rintro e w' ⟨rfl, nn, os, hw'⟩
                   obtain ⟨k1, k2, k3, k4⟩ := HF.out nn os
                   rw [← hw'] at k1 k2 k3 k4
                   have c1 := k1.cell
                   have K2 := Lib.hid k2
                   have K3 := Lib.hid k3
                   have K4 := Lib.hid k4
                   clear hw' k1 k2 k3 k4)
      refine ⟨by simp, .inl ⟨_, _, rfl, run_takeDeferred K2.out, ?_⟩⟩
      refine ⟨_, results_tmp rfl _ _ _, ?_⟩
      rw [← HSS.out]
      refine ⟨_, rfl, ?_, ?_, K3.out.trans (belowK_b (w := w) (Nat.le_refl _) _ D _ _ (by omega) K2.out rfl rfl)⟩
      · rw [hso]
        exact ownsRow_putObj K4.out (.deferred none) K2.out rfl
      · rw [hso2]
        exact hnil
  case stop =>
    rintro D c pre W _ _ h _
    exact h.elim
end Go.Proofs.YtgcdminjpdbchaaDoor
