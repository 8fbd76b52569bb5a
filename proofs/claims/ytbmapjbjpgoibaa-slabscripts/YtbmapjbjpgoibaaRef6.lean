/- The document's own Give. -/
import Derived.Test.YtbmapjbjpgoibaaRef5
namespace Go.Proofs.Ytbmapjbjpgoibaa
open Go.ChangeShapes Go.WideShapes Go.ChangeAt Go.RowKit
set_option linter.unusedVariables false

theorem ref_Give_no (r : RB) (k : Nat) (h : Int) (s : Sl) (w : World) (hs : IsRef w r k s) (hm : h ≤ 9223372036854775807) (e : s.find h = none) :
    Calls Try.prog 17 #[.pointer (some ⟨r.bR, 0, none⟩), .int .i64 h] w fun e w' => e = .returned (.int .i64 6) ∧ w = w' := by
  have HG := Lib.hid (ref_bad r k h s w hs hm e)
  clear hs e
  go_enter Try.func17, Try.ntmps17
  go_wp2_with fail
  refine HG.out.mono ?_
  rintro e w' ⟨rfl, rfl⟩
  go_wp2
  go_ret
  exact ⟨rfl, rfl⟩
theorem ref_Write_no (r : RB) (k : Nat) (h : Int) (A : Option Addr) (len cap : Nat) (s : Sl) (w : World) (hs : IsRef w r k s) (hm : h ≤ 9223372036854775807) (e : s.find h = none) :
    Calls Try.prog 22 #[.pointer (some ⟨r.bR, 0, none⟩), .int .i64 h, .slice A len cap] w fun e w' => e = .returned (.int .i64 6) ∧ w = w' := by
  have HG := Lib.hid (ref_bad r k h s w hs hm e)
  clear hs e
  go_enter Try.func22, Try.ntmps22
  go_wp2_with fail
  refine HG.out.mono ?_
  rintro e w' ⟨rfl, rfl⟩
  go_wp2
  go_ret
  exact ⟨rfl, rfl⟩
theorem ref_Write_len (r : RB) (k i : Nat) (h : Int) (A : Option Addr) (len cap : Nat) (s : Sl) (w : World) (hs : IsRef w r k s) (e : s.find h = some i) (hl : len ≠ k) :
    Calls Try.prog 22 #[.pointer (some ⟨r.bR, 0, none⟩), .int .i64 h, .slice A len cap] w fun e w' => e = .returned (.int .i64 1) ∧ w = w' := by
  have HG := Lib.hid (ref_good r k i h s w hs e)
  obtain ⟨c, hc⟩ : ∃ c, s.cells[i]? = some c := by obtain ⟨m, c, _, _, _, hc, _, _⟩ := Sl.find_some e; exact ⟨c, hc⟩
  have p2 := hs.p2
  have hi : i < s.cells.length := (List.getElem?_eq_some_iff.1 hc).1
  have n64 := hs.n64
  obtain ⟨rv, hv1, hv2⟩ := hs.v
  have cW : s.cells.length ≤ r.cW := by omega
  obtain ⟨p, hp⟩ : ∃ p, r.vs[i]? = some p := ⟨_, List.getElem?_eq_getElem (by rw [hs.vl]; exact hi)⟩
  have c2 := hs.cv hp
  have t1 : ((len : Int) != (k : Int)) = true := by simp; omega
  have t2 : (len != k) = true := by simp; omega
  clear hs e hc hv1 hv2 hp
  generalize s.cells.length = n at *
  go_enter Try.func22, Try.ntmps22
  go_wp2_with fail
  refine HG.out.mono ?_
  rintro e w' ⟨rfl, rfl⟩
  go_wp2
  go_ret
  exact ⟨rfl, rfl⟩
theorem ref_Take_full (r : RB) (k : Nat) (s : Sl) (w : World) (hs : IsRef w r k s) (h0 : s.free = []) :
    Calls Try.prog 15 #[.pointer (some ⟨r.bR, 0, none⟩)] w fun e w' => e = .returned (.tuple #[.int .i64 0, .int .i64 4]) ∧ w = w' := by
  have p3 := hs.p3
  rw [h0] at p3
  clear hs h0
  go_enter Try.func15, Try.ntmps15
  go_wp2
  go_ret2
  exact ⟨rfl, rfl⟩
end Go.Proofs.Ytbmapjbjpgoibaa
