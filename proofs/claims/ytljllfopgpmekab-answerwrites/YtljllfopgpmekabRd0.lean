/- answer's reader: numbers and texts. -/
import Derived.Test.YtljllfopgpmekabAn1
import Derived.Test.YtljllfopgpmekabNums6
import Derived.Deep.RegionHeld3
import Derived.WalkSmall
-- prune
namespace Go.Proofs.Ytljllfopgpmekab
open Go.ChangeShapes Go.WideShapes Go.ChangeAt Go.RowKit
set_option linter.unusedVariables false

/-- Bytes as a text. -/
abbrev bA (l : List UInt8) : ByteArray := ⟨l.toArray⟩
theorem bA_size (l : List UInt8) : (bA l).size = l.length := by show l.toArray.size = _; simp
theorem bA_self (s : ByteArray) : bA s.data.toList = s := by cases s; simp
/-- A reader at r, with these bytes still to be read. -/
structure RR (T : TypeId) (r : Nat) (l : List UInt8) (w : World) : Prop where
  h : Has w r T [.string (bA l)]
  n : l.length ≤ maxLen
theorem RR.lt {T : TypeId} {r : Nat} {l : List UInt8} {w : World} (h : RR T r l w) : r < w.heap.size := h.h.lt
/-- What a call that reads a thing leaves. -/
structure RdX (T : TypeId) (r : Nat) (v : Value) (l : List UInt8) (w : World) (e : Ending) (w' : World) : Prop where
  ret : e = .returned v
  rr : RR T r l w'
  kp : Kept (fun b => b = r) w w'
theorem restAll (l : List UInt8) (k : Nat) (hk : k ≤ l.length) (hm : l.length ≤ maxLen) (u : World) : (Instr.slice 9 (.string (bA l)) (some (.int .i64 (k : Int))) none none).run Try.prog u = .ok (.string (bA (l.drop k))) u := by
  have hs := bA_size l
  have e : (bA l).extract k (bA l).size = bA (l.drop k) := by
    apply ByteArray.ext
    apply Array.ext'
    rw [ByteArray.data_extract]
    simp
    rw [List.take_of_length_le]
    rw [List.length_drop]
    omega
  rw [← e]
  have : k ≤ (bA l).size := by omega
  go_simp
theorem restNone (l : List UInt8) (hm : l.length ≤ maxLen) (u : World) : (Instr.slice 9 (.string (bA l)) (some (.int .i64 0)) none none).run Try.prog u = .ok (.string (bA l)) u := restAll l 0 (Nat.zero_le _) hm u
theorem numB_i64 {l : List UInt8} (k : Nat) (hk : k ≤ 7) (h : l.length ≤ k) : IntKind.i64.wrap (numB l) = numB l := by
  have h1 := numB_lt (l := l) (by omega)
  simp [IntKind.wrap, IntKind.signed, IntKind.bits]
  omega
theorem rdN_yes {k : Nat} {l : List UInt8} (h : k ≤ l.length) : rdN k l = (numB (l.take k), l.drop k) := by unfold rdN; rw [if_pos h]
theorem rdN_no {k : Nat} {l : List UInt8} (h : ¬ k ≤ l.length) : rdN k l = (0, l) := by unfold rdN; rw [if_neg h]
theorem set0 {w : World} {T : TypeId} {r : Nat} {l l' : List UInt8} (h : RR T r l w) (hl : l'.length ≤ l.length) : RR T r l' (w.setCell ⟨r, 0, none⟩ (.string (bA l'))) :=
  ⟨h.h.store 0 (.string (bA l')), Nat.le_trans hl h.n⟩
theorem kset0 (w : World) (r i : Nat) (v : Value) : Kept (fun b => b = r) w (w.setCell ⟨r, i, none⟩ v) := (Kept.refl (fun b => b = r) w).setCell (p := ⟨r, i, none⟩) (.inl (rfl : r = r)) v
theorem aNumber_any (r : Nat) (l : List UInt8) (k : Nat) (w : World) (hk : k ≤ 7) (h : RR 113 r l w) :
    Calls Try.prog 64 #[.pointer (some ⟨r, 0, none⟩), .int .i64 k] w (RdX 113 r (.int .i64 (rdN k l).1) (rdN k l).2 w) := by
  have c0 := h.h.cell 0
  have f0 := h.h.loose 0
  simp at c0
  have hs := bA_size l
  have hm : (bA l).size ≤ maxLen := by have := h.n; omega
  by_cases hle : k ≤ l.length
  · rw [rdN_yes hle]
    have HN := Lib.hid (Number_yes (bA l) 0 k w hm (by omega) (by omega))
    have HS := restAll l k hle h.n
    have hI := numB_i64 (l := l.take k) k hk (by simp; omega)
    have R := Lib.hid (show RdX 113 r (.int .i64 (numB (l.take k))) (l.drop k) w (.returned (.int .i64 (numB (l.take k)))) (w.setCell ⟨r, 0, none⟩ (.string (bA (l.drop k)))) from ⟨rfl, set0 h (by simp), kset0 _ _ _ _⟩)
    clear h hle
    have e1 : List.take k (List.drop 0 (bA l).data.toList) = l.take k := by simp
    have e2 : ((0 + k : Nat) : Int) = (k : Int) := by simp
    rw [e1, e2] at HN
    clear e1 e2
    go_enter Try.func64, Try.ntmps64
    go_wp2_with fail
    refine HN.out.mono ?_
    rintro e w1 ⟨rfl, rfl⟩
    go_wp2
    go_ret
    exact R.out
  · rw [rdN_no hle]
    have HN := Lib.hid (Number_cut (bA l) 0 k w hm (by omega) (by omega) (by omega))
    have HS := restNone l h.n
    have R := Lib.hid (show RdX 113 r (.int .i64 0) l w (.returned (.int .i64 0)) (w.setCell ⟨r, 0, none⟩ (.string (bA l))) from ⟨rfl, set0 h (Nat.le_refl _), kset0 _ _ _ _⟩)
    clear h hle
    go_enter Try.func64, Try.ntmps64
    go_wp2_with fail
    refine HN.out.mono ?_
    rintro e w1 ⟨rfl, rfl⟩
    go_wp2
    go_ret
    exact R.out
theorem aText_any (r : Nat) (l : List UInt8) (w : World) (h : RR 113 r l w) :
    Calls Try.prog 84 #[.pointer (some ⟨r, 0, none⟩)] w (RdX 113 r (.string (rdT l).1) (rdT l).2 w) := by
  have c0 := h.h.cell 0
  have f0 := h.h.loose 0
  simp at c0
  have hs := bA_size l
  have hm : (bA l).size ≤ maxLen := by have := h.n; omega
  have key : ∀ (k : Nat) (t : ByteArray) (c : Int), k ≤ l.length → (Calls Try.prog 92 #[.string (bA l), .int .i64 0] w fun e w' => e = .returned (.tuple #[.string t, .int .i64 k, .int .i64 c]) ∧ w = w') →
      Calls Try.prog 84 #[.pointer (some ⟨r, 0, none⟩)] w (RdX 113 r (.string t) (l.drop k) w) := by
    intro k t c hk hT
    have HT := Lib.hid hT
    have HS := restAll l k hk h.n
    have R := Lib.hid (show RdX 113 r (.string t) (l.drop k) w (.returned (.string t)) (w.setCell ⟨r, 0, none⟩ (.string (bA (l.drop k)))) from ⟨rfl, set0 h (by simp), kset0 _ _ _ _⟩)
    clear h hT hk
    go_enter Try.func84, Try.ntmps84
    go_wp2_with fail
    refine HT.out.mono ?_
    rintro e w1 ⟨rfl, rfl⟩
    go_wp2
    go_ret
    exact R.out
  cases l with
  | nil =>
    have := key 0 ⟨#[]⟩ 2 (Nat.zero_le _) (by have := Text_end (bA []) w hm; exact this)
    exact this
  | cons c t =>
    have hc := UInt8.toNat_lt c
    have e0 : (bA (c :: t))[0]'(by rw [hs]; simp) = c := rfl
    rw [rdT_cons]
    by_cases hle : c.toNat ≤ t.length
    · rw [if_pos hle]
      have ht := Text_yes (bA (c :: t)) w 0 hm (by rw [hs]; simp) (by rw [e0, hs, List.length_cons]; omega)
      rw [e0] at ht
      have e1 : (bA (c :: t)).extract (0 + 1) (0 + 1 + c.toNat) = bA (t.take c.toNat) := by
        apply ByteArray.ext
        apply Array.ext'
        rw [ByteArray.data_extract]
        simp
      rw [e1] at ht
      have := key (0 + 1 + c.toNat) (bA (t.take c.toNat)) 0 (by simp; omega) ht
      rw [show List.drop (0 + 1 + c.toNat) (c :: t) = t.drop c.toNat by rw [show 0 + 1 + c.toNat = c.toNat + 1 by omega]; rfl] at this
      exact this
    · rw [if_neg hle]
      have ht := Text_cut (bA (c :: t)) w 0 hm (by rw [hs]; simp) (by rw [e0, hs, List.length_cons]; omega)
      exact key 0 ⟨#[]⟩ 2 (Nat.zero_le _) ht
theorem aFlag_any (r : Nat) (l : List UInt8) (w : World) (h : RR 113 r l w) :
    Calls Try.prog 83 #[.pointer (some ⟨r, 0, none⟩)] w (RdX 113 r (.bool ((rdN 1 l).1 == 1)) (rdN 1 l).2 w) := by
  have HN := Lib.hid (aNumber_any r l 1 w (by decide) h)
  clear h
  go_enter Try.func83, Try.ntmps83
  go_wp2_with fail
  refine HN.out.mono ?_
  rintro e w1 ⟨rfl, h1, k1⟩
  have R := Lib.hid (And.intro h1 k1)
  clear h1 k1
  go_wp2
  go_ret
  exact ⟨rfl, R.out.1, R.out.2⟩
theorem aCode_any (r : Nat) (l : List UInt8) (w : World) (h : RR 113 r l w) :
    Calls Try.prog 65 #[.pointer (some ⟨r, 0, none⟩)] w (RdX 113 r (.int .i64 (rdN 1 l).1) (rdN 1 l).2 w) := by
  have HN := Lib.hid (aNumber_any r l 1 w (by decide) h)
  clear h
  go_enter Try.func65, Try.ntmps65
  go_wp2_with fail
  refine HN.out.mono ?_
  rintro e w1 ⟨rfl, h1, k1⟩
  have R := Lib.hid (And.intro h1 k1)
  clear h1 k1
  go_wp2
  go_ret
  exact ⟨rfl, R.out.1, R.out.2⟩
theorem aItems_any (r : Nat) (l : List UInt8) (n : Nat) (hn : min (rdN 1 l).1 32 = (n : Int)) (w : World) (h : RR 113 r l w) :
    Calls Try.prog 67 #[.pointer (some ⟨r, 0, none⟩)] w (RdX 113 r (.int .i64 n) (rdN 1 l).2 w) := by
  have HN := Lib.hid (aNumber_any r l 1 w (by decide) h)
  have E := Lib.hid hn
  clear h hn
  go_enter Try.func67, Try.ntmps67
  go_wp2_with fail
  refine HN.out.mono ?_
  rintro e w1 ⟨rfl, h1, k1⟩
  have R := Lib.hid (And.intro h1 k1)
  clear h1 k1
  generalize (rdN 1 l).1 = x at *
  go_wp2
  all_goals
    go_ret
    refine ⟨?_, R.out.1, R.out.2⟩
  · exact ret_int (a := 32) (by have := E.out; omega)
  · exact ret_int (a := x) (by have := E.out; omega)
end Go.Proofs.Ytljllfopgpmekab
