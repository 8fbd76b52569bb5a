/- The document's map: New, Get, Put, Delete. -/
import Derived.Test.YtgcdminjpdbchaaDoorRbM1
import Derived.Laws.IdiomStrings
namespace Go.Proofs.YtgcdminjpdbchaaDoor
open Go.ChangeShapes Go.WideShapes Go.ChangeAt Go.RowKit
set_option linter.unusedVariables false

theorem infoPair : (Tryd.prog.info? 70).map (fun i => (i.zero, i.size, i.bytes)) = some (some (.agg #[.string ⟨#[]⟩, .int .i64 0]), 2, 24) := by kernel_rfl
theorem May_any (k : ByteArray) (w : World) (hk : k.size ≤ maxLen) : Calls Tryd.prog 36 #[.string k] w fun e w' => e = .returned (.bool (decide (1 ≤ k.size ∧ k.size ≤ 33))) ∧ w = w' := by
  unfold maxLen at hk
  by_cases h1 : 1 ≤ k.size
  · have a1 : (1 : Int) ≤ k.size := by omega
    by_cases h2 : k.size ≤ 33
    · have a2 : (k.size : Int) ≤ 33 := by omega
      rw [decide_eq_true (show 1 ≤ k.size ∧ k.size ≤ 33 from ⟨h1, h2⟩)]
      go_enter Tryd.func36, Tryd.ntmps36
      go_wp2
      go_ret
      first | exact ⟨rfl, rfl⟩ | exact ⟨by simp [a1, a2], rfl⟩
    · have a2 : ¬ (k.size : Int) ≤ 33 := by omega
      rw [decide_eq_false (show ¬ (1 ≤ k.size ∧ k.size ≤ 33) from fun h => h2 h.2)]
      go_enter Tryd.func36, Tryd.ntmps36
      go_wp2
      go_ret
      first | exact ⟨rfl, rfl⟩ | exact ⟨by simp [a1, a2], rfl⟩
  · have a1 : ¬ (1 : Int) ≤ k.size := by omega
    rw [decide_eq_false (show ¬ (1 ≤ k.size ∧ k.size ≤ 33) from fun h => h1 h.1)]
    go_enter Tryd.func36, Tryd.ntmps36
    go_wp2
    go_ret
    first | exact ⟨rfl, rfl⟩ | exact ⟨by simp [a1], rfl⟩
theorem rNew_no (b : Int) (w : World) (hb : ¬ (1 ≤ b ∧ b ≤ 8)) : Calls Tryd.prog 13 #[.int .i64 b] w fun e w' => e = .returned (.tuple #[.pointer none, .int .i64 1]) ∧ w = w' := by
  by_cases h1 : b < 1
  · go_enter Tryd.func13, Tryd.ntmps13
    go_wp2
    go_ret2
    exact ⟨rfl, rfl⟩
  · have h2 : 8 < b := by omega
    go_enter Tryd.func13, Tryd.ntmps13
    go_wp2
    go_ret2
    exact ⟨rfl, rfl⟩
def NewM (bits : Nat) (w : World) (e : Ending) (w' : World) : Prop := e = .returned (.tuple #[.pointer (some ⟨w.heap.size, 0, none⟩), .int .i64 0]) ∧ Mp w.heap.size w' w.heap.size (.slice none 0 0) [] (2 ^ bits) ∧ Below w.heap.size w w'
theorem rNew_yes (bits : Nat) (w : World) (b1 : 1 ≤ bits) (b8 : bits ≤ 8) : Calls Tryd.prog 13 #[.int .i64 (bits : Int)] w (NewM bits w) := by
  have d1 : decide ((bits : Int) < 1) = false := decide_eq_false (by omega)
  have d2 : ¬ (bits : Int) < 1 := by omega
  have d3 : decide ((8 : Int) < bits) = false := decide_eq_false (by omega)
  have d4 : ¬ (8 : Int) < bits := by omega
  go_enter Tryd.func13, Tryd.ntmps13
  go_wp2_with fail
  go_loop [4, 5] (fun n i => ∃ j : Nat, j ≤ bits ∧ n = .int .i64 ((2 ^ j : Nat) : Int) ∧ i = .int .i64 (j : Int)) (fun _ i => bits - (intOf i).toNat)
  case atStart => exact ⟨0, Nat.zero_le _, rfl, rfl⟩
  case round =>
    obtain ⟨j, hj, rfl, rfl⟩ := hrel
    have hp : 2 ^ j ≤ 256 := Nat.le_trans (Nat.pow_le_pow_right (by decide) (show j ≤ 8 by omega)) (by decide)
    obtain ⟨n, hn⟩ : ∃ n, 2 ^ j = n := ⟨_, rfl⟩
    rw [hn] at hp ⊢
    have HN := Lib.hid hn
    clear hn
    by_cases hlt : j < bits
    · go_wp2
      go_round
      case rel => exact ⟨j + 1, by omega, by rw [Nat.pow_succ, HN.out]; go_num, by go_num⟩
      case measure => simp [intOf]; omega
    · obtain rfl : j = bits := by omega
      go_wp2
      go_ret2
      refine ⟨rfl, ⟨?_, OwnPr.nil _ _ _⟩, (Below.refl _ _).alloc (Nat.le_refl _) _⟩
      rw [HN.out]
      exact Has.made w 39 [.slice none 0 0, .int .i64 (n : Int)]
/-- What Get tells of a map. -/
def GotM (M : ByteArray → Option Int) (k : ByteArray) (w : World) (e : Ending) (w' : World) : Prop := e = .returned (.tuple #[.int .i64 ((M k).getD 0), .bool (M k).isSome]) ∧ ∃ m, w' = w.drewN m
set_option maxRecDepth 100000 in
theorem rGet_any (B : Nat) (w : World) (bM : Nat) (v : Value) (l : List Pr) (most : Nat) (M : ByteArray → Option Int) (k : ByteArray) (hl : l.length ≤ 1000) (h : Mp B w bM v l most) (hM : LM l M) : Calls Tryd.prog 27 #[.pointer (some ⟨bM, 0, none⟩), .string k] w (GotM M k w) := by
  have HP := Lib.hid (place_any B w bM v l most k hl h)
  have HH := Lib.hid h
  have HM := Lib.hid hM
  clear h hM
  go_enter Tryd.func27, Tryd.ntmps27
  go_wp2_with fail
  refine HP.out.mono ?_
  rintro e w1 ⟨i, b, rfl, ⟨m, rfl⟩, hp, hi⟩
  rcases hi with ⟨rfl, p, hpi, hk⟩ | ⟨rfl, hno⟩
  · have hMk := hp.is HM.out hpi hk
    have HD := Lib.hid (HH.out.drewN m)
    have c0 := HD.out.h.cell 0
    simp at c0
    obtain ⟨A, cap, rfl, hc, hm, hA⟩ := HD.out.o.at_
    have hlt := (List.getElem?_eq_some_iff.1 hpi).1
    obtain ⟨b, off, rfl, hb, hcell⟩ := hA (by omega)
    have x1 := (hcell i p hpi).2
    unfold maxLen at hm
    have HE := Lib.hid hMk
    clear hcell hpi hk hMk hp hA
    go_wp2
    go_ret2
    exact ⟨by rw [HE.out]; rfl, m, rfl⟩
  · have HE := Lib.hid (hp.no HM.out hno)
    clear hp hno
    go_wp2
    go_ret2
    exact ⟨by rw [HE.out]; rfl, m, rfl⟩
end Go.Proofs.YtgcdminjpdbchaaDoor
