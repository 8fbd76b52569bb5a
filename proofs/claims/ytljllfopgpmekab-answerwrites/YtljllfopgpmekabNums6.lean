/- The contracts of nums.Put, Text and of the document's own: a text as bytes. -/
import Derived.Test.YtljllfopgpmekabNums5
-- prune
namespace Go.Proofs.Ytljllfopgpmekab
open Go.ChangeShapes Go.WideShapes Go.ChangeAt Go.RowKit
set_option linter.unusedVariables false

/-- A text behind its length. -/
def putB (s : ByteArray) : ByteArray := ⟨(wideL s.size 1).toArray⟩ ++ s
theorem ret_put {a b : ByteArray} (h : a = b) : Ending.returned (.tuple #[.string a, .bool true]) = .returned (.tuple #[.string b, .bool true]) := by rw [h]

set_option maxRecDepth 100000 in
theorem Put_yes (s : ByteArray) (w : World) (hs : s.size ≤ 255) :
    Calls Try.prog 89 #[.string s] w fun e w' => e = .returned (.tuple #[.string (putB s), .bool true]) ∧ Below w.heap.size w w' := by
  have hw := Wide_yes (s.size : Int) 1 w (by unfold U64; omega) (by omega)
  have HW := Lib.hid hw
  clear hw
  have hl : (wideL (s.size : Int) 1).length + s.size ≤ 300 := by rw [wideL_len]; omega
  go_enter Try.func89, Try.ntmps89
  go_wp2_with fail
  refine HW.out.mono ?_
  rintro e w' ⟨rfl, hb⟩
  go_wp2
  go_ret2
  exact ⟨ret_put rfl, hb⟩
theorem Put_no (s : ByteArray) (w : World) (hs : 255 < s.size) (hm : s.size ≤ maxLen) :
    Calls Try.prog 89 #[.string s] w fun e w' => e = .returned (.tuple #[.string ⟨#[]⟩, .bool false]) ∧ w = w' := by
  unfold maxLen at hm
  go_enter Try.func89, Try.ntmps89
  go_wp2
  go_ret2
  exact ⟨rfl, rfl⟩
theorem one_row (n : Nat) (h : n ≤ 255) : [Value.int .u8 (n : Int)] = rowF .u8 (byteN n 1) 1 := by
  simp only [rowF, List.range_succ, List.range_zero, List.nil_append, List.map_cons, List.map_nil, byteN]
  rw [show (n : Int) / 2 ^ (8 * (1 - 1 - 0)) % 256 = n by simp; omega]
set_option maxRecDepth 100000 in
theorem rPut_yes (s : ByteArray) (w : World) (hs : s.size ≤ 255) :
    Calls Try.prog 44 #[.string s] w fun e w' => e = .returned (.tuple #[.string (putB s), .bool true]) ∧ Below w.heap.size w w' := by
  have hl : (wideL (s.size : Int) 1).length + s.size ≤ 300 := by rw [wideL_len]; omega
  have hcv := wide_back (w.alloc (Obj.cells #[Value.int IntKind.u8 (s.size : Int)] 5)) w.heap.size 1 s.size 1 (by rw [← one_row _ hs]; exact Has.made _ _ _)
  go_enter Try.func44, Try.ntmps44
  go_wp2
  go_ret2
  exact ⟨ret_put rfl, (Below.refl _ _).alloc (Nat.le_refl _) _⟩
theorem rPut_no (s : ByteArray) (w : World) (hs : 255 < s.size) (hm : s.size ≤ maxLen) :
    Calls Try.prog 44 #[.string s] w fun e w' => e = .returned (.tuple #[.string ⟨#[]⟩, .bool false]) ∧ w = w' := by
  unfold maxLen at hm
  go_enter Try.func44, Try.ntmps44
  go_wp2
  go_ret2
  exact ⟨rfl, rfl⟩

theorem run_sub2 {P : Program} {t : TypeId} (ht : P.underlying t = some .string) (s : ByteArray) (n k : Nat) (h : n + 1 + k ≤ s.size) (W : World) :
    (Instr.slice t (.string s) (some (.int .i64 ((n : Int) + 1))) (some (.int .i64 ((n : Int) + 1 + (k : Int)))) none).run P W = .ok (.string (s.extract (n + 1) (n + 1 + k))) W := by
  rw [run_slice_string _ _ _ _ _ _ _ ht (by omega) (by omega) (by omega)]
  rw [show ((n : Int) + 1 + (k : Int)).toNat = n + 1 + k by omega, show ((n : Int) + 1).toNat = n + 1 by omega]
theorem numB_one (s : ByteArray) (n : Nat) (h : n < s.size) : numB ((s.data.toList.drop n).take 1) = s[n].toNat := by
  have e : (s.data.toList.drop n).take 1 = [s[n]] := by
    rw [List.drop_eq_getElem_cons (by simpa using h)]
    rfl
  rw [e]; simp [numB]
theorem Number_one (s : ByteArray) (n : Nat) (w : World) (hs : s.size ≤ maxLen) (h : n < s.size) :
    Calls Try.prog 82 #[.string s, .int .i64 n, .int .i64 1] w fun e w' => e = .returned (.tuple #[.int .u64 (s[n].toNat : Int), .int .i64 ((n : Int) + 1), .int .i64 0]) ∧ w = w' := by
  have := Number_yes s n 1 w hs (by omega) (by omega)
  rw [numB_one s n h] at this
  exact this

theorem Text_yes (s : ByteArray) (w : World) (n : Nat) (hs : s.size ≤ maxLen) (h1 : n < s.size) (h2 : n + 1 + s[n].toNat ≤ s.size) :
    Calls Try.prog 92 #[.string s, .int .i64 n] w fun e w' => e = .returned (.tuple #[.string (s.extract (n + 1) (n + 1 + s[n].toNat)), .int .i64 ((n + 1 + s[n].toNat : Nat) : Int), .int .i64 0]) ∧ w = w' := by
  have hs' := hs
  unfold maxLen at hs'
  have hsl := run_sub2 (P := Try.prog) Try.underlying9 s n s[n].toNat h2
  have hn := Lib.hid (Number_one s n w hs h1)
  have hc := UInt8.toNat_lt s[n]
  go_enter Try.func92, Try.ntmps92
  go_wp2_with fail
  refine hn.out.mono ?_
  rintro e w' ⟨rfl, rfl⟩
  go_wp2
  go_ret3
  exact ⟨ret3 rfl (by omega), rfl⟩
theorem Text_arg (s : ByteArray) (w : World) (n : Int) (hs : s.size ≤ maxLen) (h : ¬ (0 ≤ n ∧ n ≤ s.size)) :
    Calls Try.prog 92 #[.string s, .int .i64 n] w fun e w' => e = .returned (.tuple #[.string ⟨#[]⟩, .int .i64 0, .int .i64 1]) ∧ w = w' := by
  have hn := Lib.hid (Number_arg s n 1 w hs (.inr h))
  go_enter Try.func92, Try.ntmps92
  go_wp2_with fail
  refine hn.out.mono ?_
  rintro e w' ⟨rfl, rfl⟩
  go_wp2
  go_ret3
  exact ⟨rfl, rfl⟩
theorem Text_end (s : ByteArray) (w : World) (hs : s.size ≤ maxLen) :
    Calls Try.prog 92 #[.string s, .int .i64 s.size] w fun e w' => e = .returned (.tuple #[.string ⟨#[]⟩, .int .i64 0, .int .i64 2]) ∧ w = w' := by
  have hn := Lib.hid (Number_cut s s.size 1 w hs (by omega) (by omega) (by omega))
  go_enter Try.func92, Try.ntmps92
  go_wp2_with fail
  refine hn.out.mono ?_
  rintro e w' ⟨rfl, rfl⟩
  go_wp2
  go_ret3
  exact ⟨rfl, rfl⟩
theorem Text_cut (s : ByteArray) (w : World) (n : Nat) (hs : s.size ≤ maxLen) (h1 : n < s.size) (h2 : s.size < n + 1 + s[n].toNat) :
    Calls Try.prog 92 #[.string s, .int .i64 n] w fun e w' => e = .returned (.tuple #[.string ⟨#[]⟩, .int .i64 0, .int .i64 2]) ∧ w = w' := by
  have hs' := hs
  unfold maxLen at hs'
  have hn := Lib.hid (Number_one s n w hs h1)
  have hc := UInt8.toNat_lt s[n]
  go_enter Try.func92, Try.ntmps92
  go_wp2_with fail
  refine hn.out.mono ?_
  rintro e w' ⟨rfl, rfl⟩
  go_wp2
  go_ret3
  exact ⟨rfl, rfl⟩

set_option maxRecDepth 100000 in
theorem rText_yes (s : ByteArray) (w : World) (n : Nat) (hs : s.size ≤ maxLen) (h1 : n < s.size) (h2 : n + 1 + s[n].toNat ≤ s.size) :
    Calls Try.prog 49 #[.string s, .int .i64 n] w fun e w' => e = .returned (.tuple #[.string (s.extract (n + 1) (n + 1 + s[n].toNat)), .int .i64 ((n + 1 + s[n].toNat : Nat) : Int), .int .i64 0]) ∧ w = w' := by
  have hs' := hs
  unfold maxLen at hs'
  have hsl := run_sub2 (P := Try.prog) Try.underlying9 s n s[n].toNat h2
  have t1 : ((n : Int) == (s.size : Int)) = false := by simp; omega
  have t2 : decide ((s.size : Int) - n - 1 < s[n].toNat) = false := by simp; omega
  go_enter Try.func49, Try.ntmps49
  go_wp2
  go_ret3
  exact ⟨ret3 rfl (by omega), rfl⟩
theorem rText_arg (s : ByteArray) (w : World) (n : Int) (hs : s.size ≤ maxLen) (h : ¬ (0 ≤ n ∧ n ≤ s.size)) :
    Calls Try.prog 49 #[.string s, .int .i64 n] w fun e w' => e = .returned (.tuple #[.string ⟨#[]⟩, .int .i64 0, .int .i64 1]) ∧ w = w' := by
  have hs' := hs
  unfold maxLen at hs'
  have h' : n < 0 ∨ (¬ n < 0 ∧ (s.size : Int) < n) := by omega
  clear h
  rcases h' with h | ⟨h, h1⟩ <;>
    (go_enter Try.func49, Try.ntmps49
     go_wp2
     go_ret3
     exact ⟨rfl, rfl⟩)
theorem rText_end (s : ByteArray) (w : World) (hs : s.size ≤ maxLen) :
    Calls Try.prog 49 #[.string s, .int .i64 s.size] w fun e w' => e = .returned (.tuple #[.string ⟨#[]⟩, .int .i64 0, .int .i64 2]) ∧ w = w' := by
  have hs' := hs
  unfold maxLen at hs'
  go_enter Try.func49, Try.ntmps49
  go_wp2
  go_ret3
  exact ⟨rfl, rfl⟩
theorem rText_cut (s : ByteArray) (w : World) (n : Nat) (hs : s.size ≤ maxLen) (h1 : n < s.size) (h2 : s.size < n + 1 + s[n].toNat) :
    Calls Try.prog 49 #[.string s, .int .i64 n] w fun e w' => e = .returned (.tuple #[.string ⟨#[]⟩, .int .i64 0, .int .i64 2]) ∧ w = w' := by
  have hs' := hs
  unfold maxLen at hs'
  have hc := UInt8.toNat_lt s[n]
  have t1 : ((n : Int) == (s.size : Int)) = false := by simp; omega
  have t2 : decide ((s.size : Int) - n - 1 < s[n].toNat) = true := by simp; omega
  go_enter Try.func49, Try.ntmps49
  go_wp2
  go_ret3
  exact ⟨rfl, rfl⟩
end Go.Proofs.Ytljllfopgpmekab
