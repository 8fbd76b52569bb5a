/- A table, as it lies in memory; where a key is at home, and which slot is the next one. -/
import Derived.Test.YtgcdminjpdbchaaDoorRbR
import Derived.Test.YtgcdminjpdbchaaDoorMem2
import Derived.Test.YtgcdminjpdbchaaDoorHash2
import Derived.Test.YtgcdminjpdbchaaDoorI64
import Derived.Test.YtgcdminjpdbchaaDoorFlat
import Derived.Handy
import Derived.Lib.Bytes
import Derived.Deep.RegionHeld3
namespace Go.Proofs.YtgcdminjpdbchaaDoor
open Go.ChangeShapes Go.WideShapes Go.ChangeAt Go.RowKit
set_option linter.unusedVariables false

theorem str_inj {a b : ByteArray} (h : a.toList = b.toList) : a = b := by
  rw [Lib.toList_data, Lib.toList_data] at h
  exact bytes_inj h
theorem str_ne {a b : ByteArray} (h : ¬ a = b) : (a.toList == b.toList) = false := by
  simp only [beq_eq_false_iff_ne, ne_eq]
  exact fun e => h (str_inj e)
def slV (x : RS) : List Value := [.bool x.u, .string x.k, .int .i64 x.v, .int .i64 (x.d : Int)]
theorem slV_len (x : RS) : (slV x).length = 4 := rfl
def agS (x : RS) : Value := .agg #[.bool x.u, .string x.k, .int .i64 x.v, .int .i64 (x.d : Int)]
/-- A table's struct and its slots. -/
structure IsTb (w : World) (bP bS seed bits n : Nat) (s : List RS) : Prop where
  hd : Has w bP 64 [.int .u64 (seed : Int), .int .i64 (bits : Int), .slice (some ⟨bS, 0, none⟩) n n]
  sl : Has w bS 52 (s.flatMap slV)
  le : s.length = n
  ne : bP ≠ bS
def twoT (bP bS b : Nat) : Prop := b = bP ∨ b = bS
section
variable {w w' : World} {bP bS seed bits n : Nat} {s : List RS}
theorem IsTb.p0 (h : IsTb w bP bS seed bits n s) : w.cell? ⟨bP, 0, none⟩ = some (.int .u64 (seed : Int)) := h.hd.cell 0
theorem IsTb.p1 (h : IsTb w bP bS seed bits n s) : w.cell? ⟨bP, 1, none⟩ = some (.int .i64 (bits : Int)) := h.hd.cell 1
theorem IsTb.p2 (h : IsTb w bP bS seed bits n s) : w.cell? ⟨bP, 2, none⟩ = some (.slice (some ⟨bS, 0, none⟩) n n) := h.hd.cell 2
theorem IsTb.at_ (h : IsTb w bP bS seed bits n s) {i : Nat} (hi : i < n) (c : Nat) (hc : c < 4) : w.cell? ⟨bS, i * 4 + c, none⟩ = (slV (atS s i))[c]? := by
  rw [h.sl.cell, flatMap_get slV 4 slV_len s i c hc, atS_get (by rw [h.le]; exact hi)]
  rfl
theorem IsTb.c0 (h : IsTb w bP bS seed bits n s) {i : Nat} (hi : i < n) : w.cell? ⟨bS, i * 4, none⟩ = some (.bool (atS s i).u) := h.at_ hi 0 (by decide)
theorem IsTb.c1 (h : IsTb w bP bS seed bits n s) {i : Nat} (hi : i < n) : w.cell? ⟨bS, i * 4 + 1, none⟩ = some (.string (atS s i).k) := h.at_ hi 1 (by decide)
theorem IsTb.c2 (h : IsTb w bP bS seed bits n s) {i : Nat} (hi : i < n) : w.cell? ⟨bS, i * 4 + 2, none⟩ = some (.int .i64 (atS s i).v) := h.at_ hi 2 (by decide)
theorem IsTb.c3 (h : IsTb w bP bS seed bits n s) {i : Nat} (hi : i < n) : w.cell? ⟨bS, i * 4 + 3, none⟩ = some (.int .i64 ((atS s i).d : Int)) := h.at_ hi 3 (by decide)
theorem IsTb.kept {F : Nat → Prop} (h : IsTb w bP bS seed bits n s) (hk : Kept F w w') (h1 : ¬ F bP) (h2 : ¬ F bS) : IsTb w' bP bS seed bits n s := ⟨h.hd.kept hk h1, h.sl.kept hk h2, h.le, h.ne⟩
theorem IsTb.below (h : IsTb w bP bS seed bits n s) (hb : Below w.heap.size w w') : IsTb w' bP bS seed bits n s := h.kept (F := fun _ => False) (Kept.of_below hb) id id
theorem IsTb.drewN (h : IsTb w bP bS seed bits n s) (m : Nat) : IsTb (w.drewN m) bP bS seed bits n s := ⟨h.hd.drewN m, h.sl.drewN m, h.le, h.ne⟩
theorem IsTb.lt (h : IsTb w bP bS seed bits n s) : bP < w.heap.size ∧ bS < w.heap.size := ⟨h.hd.lt, h.sl.lt⟩
/-- A slot's value is stored anew. -/
theorem IsTb.setV (h : IsTb w bP bS seed bits n s) {i : Nat} (hi : i < n) (v : Int) : IsTb (w.setCell ⟨bS, i * 4 + 2, none⟩ (.int .i64 v)) bP bS seed bits n (s.set i { atS s i with v := v }) :=
  ⟨h.hd.apart (p := ⟨bS, i * 4 + 2, none⟩) h.ne _, by
    rw [← flatMap_set slV 4 slV_len s i 2 (by decide) (atS s i) { atS s i with v := v } (.int .i64 v) (atS_get (by rw [h.le]; exact hi)) rfl]
    exact h.sl.store _ _, by rw [List.length_set]; exact h.le, h.ne⟩
/-- A whole slot is stored anew. -/
theorem IsTb.set4 (h : IsTb w bP bS seed bits n s) {i : Nat} (hi : i < n) (x : RS) : IsTb ((((w.setCell ⟨bS, i * 4, none⟩ (.bool x.u)).setCell ⟨bS, i * 4 + 1, none⟩ (.string x.k)).setCell ⟨bS, i * 4 + 2, none⟩ (.int .i64 x.v)).setCell ⟨bS, i * 4 + 3, none⟩ (.int .i64 (x.d : Int))) bP bS seed bits n (s.set i x) := by
  have hl : i < s.length := by rw [h.le]; exact hi
  have e0 := atS_get hl
  refine ⟨(((h.hd.apart (p := ⟨bS, i * 4, none⟩) h.ne _).apart (p := ⟨bS, i * 4 + 1, none⟩) h.ne _).apart (p := ⟨bS, i * 4 + 2, none⟩) h.ne _).apart (p := ⟨bS, i * 4 + 3, none⟩) h.ne _, ?_, by rw [List.length_set]; exact h.le, h.ne⟩
  have q := (((h.sl.store (i * 4 + 0) (.bool x.u)).store (i * 4 + 1) (.string x.k)).store (i * 4 + 2) (.int .i64 x.v)).store (i * 4 + 3) (.int .i64 (x.d : Int))
  rw [flatMap_set slV 4 slV_len s i 0 (by decide) (atS s i) { atS s i with u := x.u } (.bool x.u) e0 rfl,
    flatMap_set slV 4 slV_len _ i 1 (by decide) { atS s i with u := x.u } { atS s i with u := x.u, k := x.k } (.string x.k) (by rw [List.getElem?_set_self hl]) rfl,
    List.set_set, flatMap_set slV 4 slV_len _ i 2 (by decide) { atS s i with u := x.u, k := x.k } { atS s i with u := x.u, k := x.k, v := x.v } (.int .i64 x.v) (by rw [List.getElem?_set_self hl]) rfl,
    List.set_set, flatMap_set slV 4 slV_len _ i 3 (by decide) { atS s i with u := x.u, k := x.k, v := x.v } x (.int .i64 (x.d : Int)) (by rw [List.getElem?_set_self hl]) rfl,
    List.set_set] at q
  exact q
end
/-- Where a key is at home. -/
noncomputable def hmF (seed bits : Nat) (k : ByteArray) : Nat := homeN (sumN seed k.data.toList) bits
theorem key_u {k : ByteArray} (hk : k.size ≤ maxLen) : U k.data.toList.length := by
  rw [Array.length_toList]
  exact Nat.lt_of_le_of_lt (show k.data.size ≤ maxLen from hk) (by decide)
theorem hmF_lt {seed bits n : Nat} (hs : U seed) (hb : bits ≤ 8) (hn : n = 2 ^ bits) (k : ByteArray) (hk : k.size ≤ maxLen) : hmF seed bits k < n := by
  rw [hn]
  exact home_lt (sumN_u hs (key_u hk)) (by omega)
theorem drew_add (w : World) (a b : Nat) : (w.drewN a).drewN b = w.drewN (a + b) := by
  show ({ w with drawn := w.drawn + a + b } : World) = { w with drawn := w.drawn + (a + b) }
  rw [Nat.add_assoc]
theorem home_any (bP bS seed bits n : Nat) (s : List RS) (k : ByteArray) (w : World) (h : IsTb w bP bS seed bits n s) (ht : TabW w) (hs : U seed) (hk : k.size ≤ maxLen) (b1 : 1 ≤ bits) (b2 : bits ≤ 8) :
    Calls Tryd.prog 41 #[.pointer (some ⟨bP, 0, none⟩), .string k] w fun e w' => e = .returned (.int .i64 (hmF seed bits k : Nat)) ∧ ∃ m, w' = w.drewN m := by
  have p0 := h.p0
  have p1 := h.p1
  have hb := h.lt.1
  have HS := Lib.hid (Sum_any seed k w.drew hk hs (ht.drewN 1))
  have HU := Lib.hid (show U (sumN seed k.data.toList) from sumN_u hs (key_u hk))
  have HI := Lib.hid (show homeI (sumN seed k.data.toList) (bits : Int) = (hmF seed bits k : Nat) from homeI_in (sumN seed k.data.toList) bits b1 (by omega))
  have HHM := Lib.hid (fun u => Home_any (sumN seed k.data.toList) (bits : Int) u HU.out)
  rw [HI.out] at HHM
  clear h ht hs
  generalize sumN seed k.data.toList = S at *
  generalize hmF seed bits k = R at *
  go_enter Tryd.func41, Tryd.ntmps41
  go_wp2_with fail
  go_region_held3 (fun w' => w'.cell? ⟨bP, 0, none⟩ = some (.int .u64 (seed : Int)) ∧ w'.cell? ⟨bP, 1, none⟩ = some (.int .i64 (bits : Int))) (first | exact ⟨p0, p1⟩ | go_keep) (first | (go_at_call 54; refine HS.out.mono ?_; rintro e w1 ⟨rfl, m1, rfl⟩) | (go_at_call 53; refine (HHM.out _).mono ?_; rintro e w2 ⟨rfl, rfl⟩))
  go_wp2
  go_ret
  exact ⟨rfl, _, rfl⟩
theorem nx_int {n i : Nat} (h : i < n) : ((i : Int) + 1).tmod (n : Int) = (nx n i : Nat) := by
  unfold nx
  split
  · rename_i e
    rw [← e]
    show ((i : Int) + 1).tmod (((i + 1 : Nat)) : Int) = 0
    rw [show (((i + 1 : Nat)) : Int) = (i : Int) + 1 by omega]
    exact Int.tmod_self
  · rw [Int.tmod_eq_of_lt (by omega) (by omega)]; omega
theorem next_any (bP bS seed bits n : Nat) (s : List RS) (i : Nat) (w : World) (h : IsTb w bP bS seed bits n s) (hi : i < n) (hn : n ≤ 256) :
    Calls Tryd.prog 34 #[.pointer (some ⟨bP, 0, none⟩), .int .i64 (i : Int)] w fun e w' => e = .returned (.int .i64 (nx n i : Nat)) ∧ w = w' := by
  have p2 := h.p2
  have hb := h.lt.1
  have e1 := nx_int hi
  have hl := nx_lt hi
  have n0 : ¬ (n : Int) = 0 := by omega
  have n1 : ((n : Int) == 0) = false := by simp; omega
  clear h
  generalize nx n i = j at *
  go_enter Tryd.func34, Tryd.ntmps34
  go_wp2
  go_ret
  exact ⟨rfl, rfl⟩
end Go.Proofs.YtgcdminjpdbchaaDoor
