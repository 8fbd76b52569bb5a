/- The contracts of slab's Read and Write. -/
import Derived.Test.YtbmapjbjpgoibaaSlab2
import Derived.Test.YtbmapjbjpgoibaaClone
import Derived.Laws.IdiomCopy
namespace Go.Proofs.Ytbmapjbjpgoibaa
open Go.ChangeShapes Go.WideShapes Go.ChangeAt Go.RowKit
set_option linter.unusedVariables false

theorem Read_nil (h : Int) (w : World) : Calls Try.prog 18 #[.pointer none, .int .i64 h] w fun e w' => e = .returned (.tuple #[.slice none 0 0, .int .i64 6]) ∧ w = w' := by
  go_enter Try.func18, Try.ntmps18
  go_wp2_with (go_at_call 29; refine (find_nil _ _).mono ?_; rintro e w' ⟨rfl, rfl⟩)
  go_ret2
  exact ⟨rfl, rfl⟩
theorem Read_no (bP bC bF k : Nat) (h : Int) (s : Sl) (w : World) (hs : IsSlab w bP bC bF k s) (e : s.find h = none) :
    Calls Try.prog 18 #[.pointer (some ⟨bP, 0, none⟩), .int .i64 h] w fun e w' => e = .returned (.tuple #[.slice none 0 0, .int .i64 6]) ∧ w = w' := by
  have H := Lib.hid (find_no bP bC bF k h s w hs e)
  clear hs e
  go_enter Try.func18, Try.ntmps18
  go_wp2_with fail
  refine H.out.mono ?_
  rintro e w' ⟨rfl, rfl⟩
  go_wp2
  go_ret2
  exact ⟨rfl, rfl⟩
/-- What Read tells of a good handle. -/
def ReadTold (ns : List Nat) (w : World) (e : Ending) (w' : World) : Prop :=
  ∃ A cap, e = .returned (.tuple #[.slice A ns.length cap, .int .i64 0]) ∧ Fresh w.heap.size w' A ns.length cap ns ∧ Below w.heap.size w w'
theorem Read_yes (bP bC bF k i : Nat) (h : Int) (s : Sl) (c : SC) (w : World) (hs : IsSlab w bP bC bF k s) (e : s.find h = some i) (hc : s.cells[i]? = some c) :
    Calls Try.prog 18 #[.pointer (some ⟨bP, 0, none⟩), .int .i64 h] w (ReadTold c.ws w) := by
  have H := Lib.hid (find_yes bP bC bF k i h s w hs e)
  obtain ⟨hw1, hw2, hw3⟩ := hs.ws c (List.mem_of_getElem? hc)
  have k32 := hs.k32
  have HC := Lib.hid (Clone_any (some ⟨c.blk, 0, none⟩) c.ws.length k c.ws w (by omega) (hw1.words hw3).words)
  rw [hw2] at HC
  have p0 := hs.p0
  have c2 := hs.c2 hc
  have hi : i < s.cells.length := (List.getElem?_eq_some_iff.1 hc).1
  have n64 := hs.n64
  have HL := Lib.hid hw2
  clear hs e hc hw1 hw2 hw3
  generalize s.cells.length = n at *
  go_enter Try.func18, Try.ntmps18
  go_wp2_with fail
  refine H.out.mono ?_
  rintro e w' ⟨rfl, rfl⟩
  go_wp2_with fail
  refine HC.out.mono ?_
  rintro e w1 ⟨A, cap, rfl, hf, hb⟩
  have R : Hid (ReadTold c.ws w (.returned (.tuple #[.slice A k cap, .int .i64 0])) w1) := by
    have hl := HL.out
    subst hl
    exact ⟨A, cap, rfl, hf, hb⟩
  clear hf hb
  go_wp2
  go_ret2
  exact R.out

theorem Write_nil (h : Int) (A : Option Addr) (len cap : Nat) (w : World) : Calls Try.prog 21 #[.pointer none, .int .i64 h, .slice A len cap] w fun e w' => e = .returned (.int .i64 6) ∧ w = w' := by
  go_enter Try.func21, Try.ntmps21
  go_wp2_with (go_at_call 29; refine (find_nil _ _).mono ?_; rintro e w' ⟨rfl, rfl⟩)
  go_ret
  exact ⟨rfl, rfl⟩
theorem Write_no (bP bC bF k : Nat) (h : Int) (A : Option Addr) (len cap : Nat) (s : Sl) (w : World) (hs : IsSlab w bP bC bF k s) (e : s.find h = none) :
    Calls Try.prog 21 #[.pointer (some ⟨bP, 0, none⟩), .int .i64 h, .slice A len cap] w fun e w' => e = .returned (.int .i64 6) ∧ w = w' := by
  have H := Lib.hid (find_no bP bC bF k h s w hs e)
  clear hs e
  go_enter Try.func21, Try.ntmps21
  go_wp2_with fail
  refine H.out.mono ?_
  rintro e w' ⟨rfl, rfl⟩
  go_wp2
  go_ret
  exact ⟨rfl, rfl⟩
theorem Write_len (bP bC bF k i : Nat) (h : Int) (A : Option Addr) (len cap : Nat) (s : Sl) (w : World) (hs : IsSlab w bP bC bF k s) (e : s.find h = some i) (hne : len ≠ k) :
    Calls Try.prog 21 #[.pointer (some ⟨bP, 0, none⟩), .int .i64 h, .slice A len cap] w fun e w' => e = .returned (.int .i64 1) ∧ w = w' := by
  have H := Lib.hid (find_yes bP bC bF k i h s w hs e)
  obtain ⟨c, hc⟩ : ∃ c, s.cells[i]? = some c := by obtain ⟨m, c, _, _, _, hc, _, _⟩ := Sl.find_some e; exact ⟨c, hc⟩
  have p0 := hs.p0
  have c2 := hs.c2 hc
  have hi : i < s.cells.length := (List.getElem?_eq_some_iff.1 hc).1
  have n64 := hs.n64
  have t0 : ((len : Int) != (k : Int)) = true := by simp; omega
  have t1 : (len != k) = true := by simp [hne]
  clear hs e hc hne
  generalize s.cells.length = n at *
  go_enter Try.func21, Try.ntmps21
  go_wp2_with fail
  refine H.out.mono ?_
  rintro e w' ⟨rfl, rfl⟩
  go_wp2
  go_ret
  exact ⟨rfl, rfl⟩

theorem copy_row (w : World) (g k cap ty : Nat) (A : Option Addr) (l : List Value) (ns : List Nat) (hg : Has w g 49 l) (hl : l.length = k) (hw : Words w A k ns) :
    (Builtin.copy_ #[33, 33] ty #[.slice (some ⟨g, 0, none⟩) k k, .slice A k cap]).run Try.prog w = .ok (goInt k) (w.setCells g 0 (wordsV ns)) := by
  have hs1 : (Try.prog.info? 49).map (·.size) = some 1 := by kernel_rfl
  rcases Nat.eq_zero_or_pos k with h0 | h0
  · subst h0
    have : ns = [] := List.eq_nil_of_length_eq_zero hw.1
    subst this
    exact run_copy_none w _ _ ty 49 _ _ 0 0 0 cap Try.underlying33 hs1 rfl
  · obtain ⟨b, off, rfl, hb, hc⟩ := hw.2.2 h0
    have hlen : (wordsV ns).length = k := by simp [wordsV, hw.1]
    have := run_copy_cells (P := Try.prog) w 33 33 ty 49 g 0 k k ⟨b, off, none⟩ k cap (wordsV ns) Try.underlying33 hs1 (by rw [hlen]; simp) (fun j v hj => by
      have hj2 : j < ns.length := by have := (List.getElem?_eq_some_iff.1 hj).1; simpa [wordsV] using this
      have h1 := hc j (by rw [← hw.1]; exact hj2)
      have e2 : (⟨b, off, none⟩ : Addr).add j = ⟨b, off + j, none⟩ := by unfold Addr.add; split <;> simp_all
      rw [e2, h1, at_nat hj2]
      rw [wordsV, List.getElem?_map, List.getElem?_eq_getElem hj2] at hj
      exact hj) (fun j hj => by
      rw [hlen] at hj
      rw [Nat.zero_add, hg.cell, List.getElem?_eq_getElem (by omega)]; rfl) (fun j hj => hg.loose _) (by intro v hv; simp [wordsV] at hv; obtain ⟨x, _, rfl⟩ := hv; rfl)
    rw [hlen] at this
    exact this

theorem IsSlab.write {w : World} {bP bC bF k : Nat} {s : Sl} {i : Nat} {c : SC} {ns : List Nat} (h : IsSlab w bP bC bF k s) (hc : s.cells[i]? = some c) (hn : ns.length = k) (ha : AllW ns) :
    IsSlab (w.setCells c.blk 0 (wordsV ns)) bP bC bF k (s.put i { c with ws := ns } s.free) ∧ Kept (foot bP bC bF s) w (w.setCells c.blk 0 (wordsV ns)) := by
  obtain ⟨n1, n2, n3, n4⟩ := h.ne
  have hm := List.mem_of_getElem? hc
  obtain ⟨m1, m2, m3⟩ := n4 c hm
  obtain ⟨hw1, hw2, hw3⟩ := h.ws c hm
  obtain ⟨rest, hr, hrl⟩ := h.fr
  have hk2 : Kept (fun x => x = c.blk) w (w.setCells c.blk 0 (wordsV ns)) := Kept.setCells _ (Kept.refl _ _) (.inl rfl)
  have e : s.cells.flatMap (scV k) = (s.cells.set i { c with ws := ns }).flatMap (scV k) := by
    apply List.ext_getElem?
    intro j
    have hj : j = (j / 3) * 3 + j % 3 := by omega
    rw [hj, flatMap_get _ 3 (scV_len k) _ _ _ (by omega), flatMap_get _ 3 (scV_len k) _ _ _ (by omega), List.getElem?_set]
    by_cases e : i = j / 3
    · rw [if_pos e, if_pos (List.getElem?_eq_some_iff.1 hc).1, ← e, hc]; rfl
    · rw [if_neg e]
  refine ⟨h.put (c' := { c with ws := ns }) (fr := s.free) (l := rest) (rest := []) hc rfl (h.hd.kept hk2 m1) ?_ (hr.kept hk2 m3) hrl h.fi (h.gn c hm) (hw1.setAll (by simp [wordsV, hn, hw2])) hn ha (fun b hb _ _ _ e4 => hk2.block b hb e4), hk2.mono (fun b _ e => .inr (.inr (.inr ⟨c, hm, e⟩)))⟩
  have := h.cs.kept hk2 m2
  rw [flat, e] at this
  exact this
theorem Write_yes (bP bC bF k i : Nat) (h : Int) (A : Option Addr) (cap : Nat) (ns : List Nat) (s : Sl) (c : SC) (w : World) (hs : IsSlab w bP bC bF k s) (e : s.find h = some i) (hc : s.cells[i]? = some c) (hw : Words w A k ns) :
    Calls Try.prog 21 #[.pointer (some ⟨bP, 0, none⟩), .int .i64 h, .slice A k cap] w (SlabTells bP bC bF k s (s.put i { c with ws := ns } s.free) (.int .i64 0) w) := by
  have H := Lib.hid (find_yes bP bC bF k i h s w hs e)
  obtain ⟨hA, hB⟩ := hs.write hc hw.1 hw.2.1
  have HA := Lib.hid hA
  have HB := Lib.hid hB
  obtain ⟨hw1, hw2, hw3⟩ := hs.ws c (List.mem_of_getElem? hc)
  have hcp := fun ty => copy_row w c.blk k cap ty A (wordsV c.ws) ns hw1 (by simp [wordsV, hw2]) hw
  have p0 := hs.p0
  have c2 := hs.c2 hc
  have hi : i < s.cells.length := (List.getElem?_eq_some_iff.1 hc).1
  have n64 := hs.n64
  clear hs e hc hw hA hB hw1 hw2 hw3
  generalize s.cells.length = n at *
  go_enter Try.func21, Try.ntmps21
  go_wp2_with fail
  refine H.out.mono ?_
  rintro e w' ⟨rfl, rfl⟩
  go_wp2_with fail
  go_ret
  exact ⟨rfl, HA.out, HB.out⟩
end Go.Proofs.Ytbmapjbjpgoibaa
