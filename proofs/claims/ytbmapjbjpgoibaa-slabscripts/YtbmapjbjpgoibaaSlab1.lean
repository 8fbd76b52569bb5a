/- The contracts of slab's handle, find and Free. -/
import Derived.Test.YtbmapjbjpgoibaaSlab0
import Derived.WalkKit
import Derived.ProofKit
import Derived.OpenShut
import Derived.Deep.QuietTactic
import Derived.BigQuiet
namespace Go.Proofs.Ytbmapjbjpgoibaa
open Go.ChangeShapes Go.WideShapes Go.ChangeAt Go.RowKit
set_option linter.unusedVariables false

theorem handle_any (bP bC bF k i : Nat) (s : Sl) (c : SC) (w : World) (h : IsSlab w bP bC bF k s) (hc : s.cells[i]? = some c) :
    Calls Try.prog 28 #[.pointer (some ⟨bP, 0, none⟩), .int .i64 i] w fun e w' => e = .returned (.int .i64 ((c.gen : Int) * 64 + i)) ∧ w = w' := by
  have p0 := h.p0
  have c1 := h.c1 hc
  have hi : i < s.cells.length := (List.getElem?_eq_some_iff.1 hc).1
  have n64 := h.n64
  have hg : c.gen ≤ 1000000 := h.gn c (List.mem_of_getElem? hc)
  clear h hc
  generalize s.cells.length = n at *
  generalize c.gen = g at *
  go_enter Try.func28, Try.ntmps28
  go_wp2
  go_ret
  exact ⟨rfl, rfl⟩

theorem find_yes (bP bC bF k i : Nat) (h : Int) (s : Sl) (w : World) (hs : IsSlab w bP bC bF k s) (e : s.find h = some i) :
    Calls Try.prog 29 #[.pointer (some ⟨bP, 0, none⟩), .int .i64 h] w fun e w' => e = .returned (.tuple #[.int .i64 i, .bool true]) ∧ w = w' := by
  obtain ⟨m, c, rfl, hm, h64, hc, ht, hg⟩ := Sl.find_some e
  have p0 := hs.p0
  have c0 := hs.c0 hc
  rw [ht] at c0
  have hi : i < s.cells.length := (List.getElem?_eq_some_iff.1 hc).1
  have n64 := hs.n64
  have HS := Lib.hid hs
  have HC := Lib.hid hc
  have t0 : ((c.gen : Int) * 64 + (i : Int) != (m : Int)) = false := by simp; omega
  clear hs hc ht hg e
  generalize s.cells.length = n at *
  go_enter Try.func29, Try.ntmps29
  go_wp2_with (go_at_call 28; refine (handle_any bP bC bF k i s c _ HS.out HC.out).mono ?_; rintro e w' ⟨rfl, rfl⟩)
  go_ret2
  exact ⟨rfl, rfl⟩
theorem find_no (bP bC bF k : Nat) (h : Int) (s : Sl) (w : World) (hs : IsSlab w bP bC bF k s) (e : s.find h = none) :
    Calls Try.prog 29 #[.pointer (some ⟨bP, 0, none⟩), .int .i64 h] w fun e w' => e = .returned (.tuple #[.int .i64 0, .bool false]) ∧ w = w' := by
  rcases Sl.find_none e with h0 | ⟨m, i, rfl, hm, h64, hor⟩
  · clear hs e
    go_enter Try.func29, Try.ntmps29
    go_wp2
    go_ret2
    exact ⟨rfl, rfl⟩
  · have p0 := hs.p0
    have n64 := hs.n64
    rcases hor with hi | ⟨c, hc, hor⟩
    · clear hs e
      generalize s.cells.length = n at *
      go_enter Try.func29, Try.ntmps29
      go_wp2
      go_ret2
      exact ⟨rfl, rfl⟩
    · have c0 := hs.c0 hc
      have hi : i < s.cells.length := (List.getElem?_eq_some_iff.1 hc).1
      rcases hor with ht | ⟨ht, hg⟩
      · rw [ht] at c0
        clear hs hc ht e
        generalize s.cells.length = n at *
        go_enter Try.func29, Try.ntmps29
        go_wp2
        go_ret2
        exact ⟨rfl, rfl⟩
      · rw [ht] at c0
        have HS := Lib.hid hs
        have HC := Lib.hid hc
        have t0 : ((c.gen : Int) * 64 + (i : Int) != (m : Int)) = true := by simp; omega
        clear hs hc ht hg e
        generalize s.cells.length = n at *
        go_enter Try.func29, Try.ntmps29
        go_wp2_with (go_at_call 28; refine (handle_any bP bC bF k i s c _ HS.out HC.out).mono ?_; rintro e w' ⟨rfl, rfl⟩)
        go_ret2
        exact ⟨rfl, rfl⟩
theorem find_nil (h : Int) (w : World) :
    Calls Try.prog 29 #[.pointer none, .int .i64 h] w fun e w' => e = .returned (.tuple #[.int .i64 0, .bool false]) ∧ w = w' := by
  go_enter Try.func29, Try.ntmps29
  go_wp2
  go_ret2
  exact ⟨rfl, rfl⟩
theorem Free_any (bP bC bF k : Nat) (s : Sl) (w : World) (hs : IsSlab w bP bC bF k s) :
    Calls Try.prog 23 #[.pointer (some ⟨bP, 0, none⟩)] w fun e w' => e = .returned (.int .i64 s.free.length) ∧ w = w' := by
  have p1 := hs.p1
  clear hs
  generalize s.free.length = n at *
  go_enter Try.func23, Try.ntmps23
  go_wp2
  go_ret
  exact ⟨rfl, rfl⟩
theorem Free_nil (w : World) : Calls Try.prog 23 #[.pointer none] w fun e w' => e = .returned (.int .i64 0) ∧ w = w' := by
  go_enter Try.func23, Try.ntmps23
  go_wp2
  go_ret
  exact ⟨rfl, rfl⟩
theorem Take_nil (w : World) : Calls Try.prog 14 #[.pointer none] w fun e w' => e = .returned (.tuple #[.int .i64 0, .int .i64 4]) ∧ w = w' := by
  go_enter Try.func14, Try.ntmps14
  go_wp2_with (go_at_call 23; refine (Free_nil _).mono ?_; rintro e w' ⟨rfl, rfl⟩)
  go_ret2
  exact ⟨rfl, rfl⟩
theorem Take_full (bP bC bF k : Nat) (s : Sl) (w : World) (hs : IsSlab w bP bC bF k s) (h0 : s.free = []) :
    Calls Try.prog 14 #[.pointer (some ⟨bP, 0, none⟩)] w fun e w' => e = .returned (.tuple #[.int .i64 0, .int .i64 4]) ∧ w = w' := by
  have h := Free_any bP bC bF k s w hs
  rw [h0] at h
  have H := Lib.hid h
  clear h hs h0
  go_enter Try.func14, Try.ntmps14
  go_wp2_with fail
  refine H.out.mono ?_
  rintro e w' ⟨rfl, rfl⟩
  go_wp2
  go_ret2
  exact ⟨rfl, rfl⟩
end Go.Proofs.Ytbmapjbjpgoibaa
