/- For every number, width and two texts the law NumsBack returns true: what nums writes it reads, wherever it stands (of texts of at most 300 bytes each, else only the document's examples are asked). No condition. -/
import Derived.Test.YtefpgpehncllnabRows
import Derived.Test.YtefpgpehncllnabNums7
import Derived.Test.YtefpgpehncllnabOpen
import Derived.Deep.QuietTactic
import Derived.BigQuiet
import Derived.WalkSmall
import Derived.Deep.RegionHeld3
namespace Go.Proofs.Ytefpgpehncllnab.numsBack
open Go.ChangeShapes Go.WideShapes Go.ChangeAt Go.RowKit
open Go.ChangeMaps (open_string shut_string)
set_option linter.unusedVariables false

theorem wideL_succ (n : Int) (k : Nat) (hn : 0 ≤ n) : wideL n (k + 1) = wideL (n / 256) k ++ [UInt8.ofNat (n % 256).toNat] := by
  unfold wideL
  rw [List.range_succ, List.map_append]
  congr 1
  · apply List.map_congr_left
    intro i hi
    have hi : i < k := by simpa using hi
    have e : byteN n (k + 1) i = byteN (n / 256) k i := by
      unfold byteN
      rw [show k + 1 - 1 - i = (k - 1 - i) + 1 by omega, ← div_step n _ hn]
      rw [Int.ediv_ediv_of_nonneg (Int.pow_nonneg (by decide)), Int.ediv_ediv_of_nonneg (by decide), Int.mul_comm]
    rw [e]
  · simp [byteN]
theorem numB_wide : ∀ (k : Nat) (n : Int), 0 ≤ n → numB (wideL n k) = n % 2 ^ (8 * k) := by
  intro k
  induction k with
  | zero => intro n hn; simp [wideL, numB]
  | succ k ih =>
    intro n hn
    rw [wideL_succ n k hn, numB_snoc, ih (n / 256) (by omega)]
    have e : (2 : Int) ^ (8 * (k + 1)) = 256 * 2 ^ (8 * k) := by
      rw [show 8 * (k + 1) = 8 * k + 8 by omega, Int.pow_add, Int.mul_comm]; rfl
    have h2 : ((UInt8.ofNat (n % 256).toNat).toNat : Int) = n % 256 := by
      simp only [UInt8.toNat_ofNat']; omega
    have h3 : n % (256 * 2 ^ (8 * k)) = n % 256 + 256 * (n / 256 % 2 ^ (8 * k)) := by
      obtain ⟨m, rfl⟩ := Int.eq_ofNat_of_zero_le hn
      have := Nat.mod_mul (x := m) (a := 256) (b := 2 ^ (8 * k))
      have h4 : ((m % (256 * 2 ^ (8 * k)) : Nat) : Int) = ((m % 256 + 256 * (m / 256 % 2 ^ (8 * k)) : Nat) : Int) := by rw [this]
      simpa using h4
    rw [e, h2, h3]
    omega

theorem cat_list (a b c : ByteArray) : (a ++ b ++ c).data.toList = a.data.toList ++ b.data.toList ++ c.data.toList := by simp
theorem mid_take (a b c : ByteArray) : (((a ++ b ++ c).data.toList.drop a.size).take b.size) = b.data.toList := by
  rw [cat_list, List.append_assoc, List.drop_append_of_le_length (by simp), List.drop_of_length_le (by simp), List.nil_append]
  simp
theorem wideB_size (n : Int) (k : Nat) : (ByteArray.mk (wideL n k).toArray).size = k := by
  show (wideL n k).toArray.size = k
  simp [wideL_len]
theorem put_size (s : ByteArray) : (putB s).size = s.size + 1 := by
  unfold putB; rw [ByteArray.size_append, wideB_size]; omega
theorem put_list (s : ByteArray) (h : s.size ≤ 255) : (putB s).data.toList = UInt8.ofNat s.size :: s.data.toList := by
  unfold putB
  rw [ByteArray.data_append, Array.toList_append]
  simp [wideL, byteN, List.range_succ]
  rw [show ((s.size : Int) % 256).toNat = s.size by omega]

theorem bcell {W w1 : World} (hb : Below W.heap.size W w1) {b o : Nat} {v : Value} (h : b < W.heap.size) (hc : W.cell? ⟨b, o, none⟩ = some v) : w1.cell? ⟨b, o, none⟩ = some v :=
  (hb.cell (p := ⟨b, o, none⟩) h).trans hc

set_option maxRecDepth 100000 in
set_option maxHeartbeats 2000000 in
theorem walk_big (n k : Int) (s0 s1 : ByteArray) (h0 : s0.size ≤ maxLen) (h1 : s1.size ≤ maxLen) (h : 300 < s0.size ∨ 300 < s1.size) (w : World) :
    Calls Try.prog 6 #[.int .u64 n, .int .i64 k, .agg #[.string s0, .string s1]] w fun e w' => e = .returned (.bool true) ∧ Below w.heap.size w w' := by
  unfold maxLen at h0 h1
  have h' : 300 < s0.size ∨ (¬ 300 < s0.size ∧ 300 < s1.size) := by omega
  clear h
  rcases h' with h | ⟨h, h2⟩
  · go_enter Try.func6, Try.ntmps6
    go_wp2_with (first | (go_at_call 17; refine (live_any _).mono ?_; rintro e w1 ⟨rfl, hbl⟩))
    go_ret
    exact ⟨rfl, ((Below.refl _ _).alloc (Nat.le_refl _) _).trans (hbl.mono (by simp))⟩
  · go_enter Try.func6, Try.ntmps6
    go_wp2_with (first | (go_at_call 17; refine (live_any _).mono ?_; rintro e w1 ⟨rfl, hbl⟩))
    go_ret
    exact ⟨rfl, ((Below.refl _ _).alloc (Nat.le_refl _) _).trans (hbl.mono (by simp))⟩

set_option maxRecDepth 100000 in
set_option maxHeartbeats 2000000 in
theorem walk_no (n k : Int) (s0 s1 : ByteArray) (h0 : s0.size ≤ 300) (h1 : s1.size ≤ 300) (h : ¬ (0 ≤ k ∧ k ≤ 8)) (w : World) :
    Calls Try.prog 6 #[.int .u64 n, .int .i64 k, .agg #[.string s0, .string s1]] w fun e w' => e = .returned (.bool true) ∧ Below w.heap.size w w' := by
  have hm : (s0 ++ ⟨#[]⟩ ++ s1).size ≤ maxLen := by
    rw [ByteArray.size_append, ByteArray.size_append, show (⟨#[]⟩ : ByteArray).size = 0 from rfl]; unfold maxLen; omega
  have C := Lib.hid (fun w => Number_arg (s0 ++ ⟨#[]⟩ ++ s1) s0.size k w hm (.inl h))
  have h' : k < 0 ∨ (¬ k < 0 ∧ 8 < k) := by omega
  rcases h' with h2 | ⟨h2, h3⟩
  · go_enter Try.func6, Try.ntmps6
    go_wp2_with fail
    refine (Wide_no n k _ h).mono ?_; rintro e w1 ⟨rfl, rfl⟩
    go_wp2_with fail
    refine (C.out _).mono ?_; rintro e w1 ⟨rfl, rfl⟩
    go_wp2_with fail
    refine (live_any _).mono ?_; rintro e w1 ⟨rfl, hbl⟩
    go_wp2
    go_ret
    exact ⟨rfl, ((Below.refl _ _).alloc (Nat.le_refl _) _).trans (hbl.mono (by simp))⟩
  · go_enter Try.func6, Try.ntmps6
    go_wp2_with fail
    refine (Wide_no n k _ h).mono ?_; rintro e w1 ⟨rfl, rfl⟩
    go_wp2_with fail
    refine (C.out _).mono ?_; rintro e w1 ⟨rfl, rfl⟩
    go_wp2_with fail
    refine (live_any _).mono ?_; rintro e w1 ⟨rfl, hbl⟩
    go_wp2
    go_ret
    exact ⟨rfl, ((Below.refl _ _).alloc (Nat.le_refl _) _).trans (hbl.mono (by simp))⟩

theorem and_low (n : Int) (k : Nat) (hn : U64 n) (hk : k < 8) : (n % 2 ^ (8 * k) != bits BinOp.and IntKind.u64 n (IntKind.u64.wrap (IntKind.u64.wrap (2 ^ (8 * k)) - 1))) = false := by
  have hp : (2 : Int) ^ (8 * k) = ((2 ^ (8 * k) : Nat) : Int) := by simp
  have h1 : 2 ^ (8 * k) ≤ 2 ^ 56 := Nat.pow_le_pow_right (by decide) (by omega)
  have h2 : 0 < 2 ^ (8 * k) := Nat.two_pow_pos _
  have e1 : IntKind.u64.wrap (2 ^ (8 * k)) = 2 ^ (8 * k) := by rw [wrapU, hp]; omega
  have e2 : IntKind.u64.wrap ((2 : Int) ^ (8 * k) - 1) = 2 ^ (8 * k) - 1 := by rw [wrapU, hp]; omega
  rw [e1, e2, bits_mask .u64 64 (by decide) (fun n h0 h1 => by rw [wrapU]; omega) (8 * k) (by omega) n hn.1 (by have := hn.2; omega)]
  simp
theorem all_low (n : Int) (hn : U64 n) : (n % 2 ^ (8 * 8) != n) = false := by
  have : n % 2 ^ (8 * 8) = n := Int.emod_eq_of_lt hn.1 hn.2
  rw [this]; simp

theorem text_any (s : ByteArray) (n : Int) (hs : s.size ≤ maxLen) : ∃ (t : ByteArray) (x y : Int),
    ∀ w, Calls Try.prog 26 #[.string s, .int .i64 n] w fun e w' => e = .returned (.tuple #[.string t, .int .i64 x, .int .i64 y]) ∧ w = w' := by
  by_cases h : 0 ≤ n ∧ n ≤ s.size
  · by_cases h2 : n = s.size
    · subst h2; exact ⟨_, _, _, fun w => Text_end s w hs⟩
    · obtain ⟨k, rfl⟩ := Int.eq_ofNat_of_zero_le h.1
      have hk : k < s.size := by omega
      by_cases h3 : k + 1 + s[k].toNat ≤ s.size
      · exact ⟨_, _, _, fun w => Text_yes s w k hs hk h3⟩
      · exact ⟨_, _, _, fun w => Text_cut s w k hs hk (by omega)⟩
  · exact ⟨_, _, _, fun w => Text_arg s w n hs h⟩

theorem text_put (s0 s1 : ByteArray) (h0 : s0.size ≤ 300) (h1 : s1.size ≤ 255) (w : World) :
    Calls Try.prog 26 #[.string (s0 ++ putB s1 ++ s0), .int .i64 s0.size] w fun e w' => e = .returned (.tuple #[.string s1, .int .i64 ((s0.size : Int) + ((s1.size : Int) + 1)), .int .i64 0]) ∧ w = w' := by
  have hz : (s0 ++ putB s1 ++ s0).size = s0.size + (s1.size + 1) + s0.size := by rw [ByteArray.size_append, ByteArray.size_append, put_size]
  have hlt : s0.size < (s0 ++ putB s1 ++ s0).size := by omega
  have hm := mid_take s0 (putB s1) s0
  rw [put_list s1 h1, put_size] at hm
  have hb : (s0 ++ putB s1 ++ s0)[s0.size].toNat = s1.size := by
    have e : (s0 ++ putB s1 ++ s0).data.toList.drop s0.size = (s0 ++ putB s1 ++ s0)[s0.size] :: (s0 ++ putB s1 ++ s0).data.toList.drop (s0.size + 1) := by
      rw [List.drop_eq_getElem_cons (by rw [Array.length_toList]; exact hlt)]; rfl
    rw [e, List.take_succ_cons] at hm
    have := (List.cons.inj hm).1
    rw [this, UInt8.toNat_ofNat']; omega
  have hx : (s0 ++ putB s1 ++ s0).extract (s0.size + 1) (s0.size + 1 + s1.size) = s1 := by
    apply ByteArray.ext
    apply Array.ext'
    rw [sub_list, ← List.drop_drop]
    have : List.drop 1 (List.take (s1.size + 1) (List.drop s0.size (s0 ++ putB s1 ++ s0).data.toList)) = s1.data.toList := by rw [hm]; rfl
    rw [List.drop_take] at this
    simpa using this
  refine calls_eq (Text_yes (s0 ++ putB s1 ++ s0) w s0.size (by unfold maxLen; omega) hlt (by rw [hb]; omega)) ?_
  rw [hb, hx, show ((s0.size + 1 + s1.size : Nat) : Int) = (s0.size : Int) + ((s1.size : Int) + 1) by omega]

set_option maxRecDepth 100000 in
set_option maxHeartbeats 2000000 in
theorem walk_yes (n : Int) (k : Nat) (s0 s1 : ByteArray) (hn : U64 n) (h0 : s0.size ≤ 300) (h1 : s1.size ≤ 300) (h : k ≤ 8) (w : World) :
    Calls Try.prog 6 #[.int .u64 n, .int .i64 k, .agg #[.string s0, .string s1]] w fun e w' => e = .returned (.bool true) ∧ Below w.heap.size w w' := by
  obtain ⟨x, hx⟩ : ∃ x, x = ByteArray.mk (wideL n k).toArray := ⟨_, rfl⟩
  have hxs : x.size = k := by rw [hx]; exact wideB_size n k
  have hxn : numB (((s0 ++ x ++ s1).data.toList.drop s0.size).take k) = n % 2 ^ (8 * k) := by
    have := mid_take s0 x s1
    rw [hxs] at this
    rw [this, hx]; exact numB_wide k n hn.1
  have hm : (s0 ++ x ++ s1).size ≤ maxLen := by
    rw [ByteArray.size_append, ByteArray.size_append]; unfold maxLen; omega
  have c1 := fun w => Number_yes (s0 ++ x ++ s1) s0.size k w hm (by rw [ByteArray.size_append, ByteArray.size_append]; omega) h
  rw [hxn] at c1
  have C1 := Lib.hid c1
  have c0 := fun w => Wide_yes n k w hn h
  rw [← hx] at c0
  have C0 := Lib.hid c0
  have hxle : x.size ≤ 8 := by omega
  have HXS := Lib.hid hxs
  clear c0 c1 hx hxn hxs
  go_enter Try.func6, Try.ntmps6
  go_wp2_with fail
  refine (C0.out _).mono ?_; rintro e w1 ⟨rfl, hb1⟩
  have e0 : w1.cell? ⟨w.heap.size, 0, none⟩ = some (.string s0) := bcell hb1 (by simp) (by simp)
  have e1 : w1.cell? ⟨w.heap.size, 1, none⟩ = some (.string s1) := bcell hb1 (by simp) (by simp)
  have hb1' : Below w.heap.size w w1 := ((Below.refl _ _).alloc (Nat.le_refl _) _).trans (hb1.mono (by simp))
  have hz1 : w.heap.size < w1.heap.size := by have := hb1.size; simp at this; omega
  clear hb1
  go_wp2_with fail
  refine (C1.out _).mono ?_; rintro e w2 ⟨rfl, rfl⟩
  have f1 : ((x.size : Int) != (k : Int)) = false := by rw [HXS.out]; simp
  by_cases hk8 : k < 8
  · have f2 := and_low n k hn hk8
    go_wp2_with fail
    by_cases h5 : s1.size ≤ 255
    · refine (Put_yes s1 _ h5).mono ?_; rintro e w2 ⟨rfl, hb2⟩
      have e2 : w2.cell? ⟨w.heap.size, 0, none⟩ = some (.string s0) := bcell hb2 hz1 e0
      have e3 : w2.cell? ⟨w.heap.size, 1, none⟩ = some (.string s1) := bcell hb2 hz1 e1
      have hz2 : w.heap.size < w2.heap.size := by have := hb2.size; omega
      have hb2' : Below w.heap.size w w2 := hb1'.trans (hb2.mono (by omega))
      have hps : (putB s1).size ≤ 256 := by rw [put_size]; omega
      have HPS := Lib.hid (put_size s1)
      have hsum : (s0 ++ putB s1 ++ s0).size ≤ 900 := by rw [ByteArray.size_append, ByteArray.size_append]; omega
      generalize hP : putB s1 = P at *
      have C2 := Lib.hid (text_put s0 s1 h0 h5)
      rw [hP] at C2
      have f3 : ((s0.size : Int) + ((s1.size : Int) + 1) == (s0.size : Int) + (P.size : Int)) = true := by rw [HPS.out]; simp
      have f4 : ((P.size : Int) == (s1.size : Int) + 1) = true := by rw [HPS.out]; simp
      clear hb2 e0 e1 hP
      go_wp2_with fail
      refine (C2.out _).mono ?_; rintro e w3 ⟨rfl, rfl⟩
      go_wp2_with fail
      refine (live_any _).mono ?_; rintro e w3 ⟨rfl, hb3⟩
      go_wp2
      go_ret
      exact ⟨rfl, hb2'.trans (hb3.mono (by omega))⟩
    · have h5' : 255 < s1.size := by omega
      obtain ⟨t, y, z, c3⟩ := text_any (s0 ++ ⟨#[]⟩ ++ s0) s0.size (by rw [ByteArray.size_append, ByteArray.size_append, show (⟨#[]⟩ : ByteArray).size = 0 from rfl]; unfold maxLen; omega)
      have C3 := Lib.hid c3
      clear c3
      refine (Put_no s1 _ h5' (by unfold maxLen; omega)).mono ?_; rintro e w2 ⟨rfl, rfl⟩
      go_wp2_with fail
      refine (C3.out _).mono ?_; rintro e w3 ⟨rfl, rfl⟩
      go_wp2_with fail
      refine (live_any _).mono ?_; rintro e w3 ⟨rfl, hb3⟩
      go_wp2
      go_ret
      exact ⟨rfl, hb1'.trans (hb3.mono (by omega))⟩
  · have f2 : (n % 2 ^ (8 * k) != n) = false := by
      have hk9 : k = 8 := by omega
      rw [hk9]; exact all_low n hn
    go_wp2_with fail
    by_cases h5 : s1.size ≤ 255
    · refine (Put_yes s1 _ h5).mono ?_; rintro e w2 ⟨rfl, hb2⟩
      have e2 : w2.cell? ⟨w.heap.size, 0, none⟩ = some (.string s0) := bcell hb2 hz1 e0
      have e3 : w2.cell? ⟨w.heap.size, 1, none⟩ = some (.string s1) := bcell hb2 hz1 e1
      have hz2 : w.heap.size < w2.heap.size := by have := hb2.size; omega
      have hb2' : Below w.heap.size w w2 := hb1'.trans (hb2.mono (by omega))
      have hps : (putB s1).size ≤ 256 := by rw [put_size]; omega
      have HPS := Lib.hid (put_size s1)
      have hsum : (s0 ++ putB s1 ++ s0).size ≤ 900 := by rw [ByteArray.size_append, ByteArray.size_append]; omega
      generalize hP : putB s1 = P at *
      have C2 := Lib.hid (text_put s0 s1 h0 h5)
      rw [hP] at C2
      have f3 : ((s0.size : Int) + ((s1.size : Int) + 1) == (s0.size : Int) + (P.size : Int)) = true := by rw [HPS.out]; simp
      have f4 : ((P.size : Int) == (s1.size : Int) + 1) = true := by rw [HPS.out]; simp
      clear hb2 e0 e1 hP
      go_wp2_with fail
      refine (C2.out _).mono ?_; rintro e w3 ⟨rfl, rfl⟩
      go_wp2_with fail
      refine (live_any _).mono ?_; rintro e w3 ⟨rfl, hb3⟩
      go_wp2
      go_ret
      exact ⟨rfl, hb2'.trans (hb3.mono (by omega))⟩
    · have h5' : 255 < s1.size := by omega
      obtain ⟨t, y, z, c3⟩ := text_any (s0 ++ ⟨#[]⟩ ++ s0) s0.size (by rw [ByteArray.size_append, ByteArray.size_append, show (⟨#[]⟩ : ByteArray).size = 0 from rfl]; unfold maxLen; omega)
      have C3 := Lib.hid c3
      clear c3
      refine (Put_no s1 _ h5' (by unfold maxLen; omega)).mono ?_; rintro e w2 ⟨rfl, rfl⟩
      go_wp2_with fail
      refine (C3.out _).mono ?_; rintro e w3 ⟨rfl, rfl⟩
      go_wp2_with fail
      refine (live_any _).mono ?_; rintro e w3 ⟨rfl, hb3⟩
      go_wp2
      go_ret
      exact ⟨rfl, hb1'.trans (hb3.mono (by omega))⟩

theorem walk (n k : Int) (s0 s1 : ByteArray) (wn : (Lit.int .u64 n).wf = true) (wk : (Lit.int .i64 k).wf = true) (h0 : s0.size ≤ maxLen) (h1 : s1.size ≤ maxLen) (w : World) :
    Calls Try.prog 6 #[.int .u64 n, .int .i64 k, .agg ([s0, s1].map Value.string).toArray] w fun e w' => e = .returned (.bool true) ∧ Below w.heap.size w w' := by
  have hn := U64.of_wf wn
  show Calls Try.prog 6 #[.int .u64 n, .int .i64 k, .agg #[.string s0, .string s1]] w fun e w' => e = .returned (.bool true) ∧ Below w.heap.size w w'
  by_cases hb : 300 < s0.size ∨ 300 < s1.size
  · exact walk_big n k s0 s1 h0 h1 hb w
  · by_cases hk : 0 ≤ k ∧ k ≤ 8
    · obtain ⟨k, rfl⟩ := Int.eq_ofNat_of_zero_le hk.1
      exact walk_yes n k s0 s1 hn (by omega) (by omega) (by omega) w
    · exact walk_no n k s0 s1 (by omega) (by omega) hk w

theorem own : ownKnob Try.prog.godebug = none := by kernel_rfl
theorem laidOut : laidOutB Try.prog = true := by kernel_rfl
theorem contract (H : Type) (enc : TypeId × Value → H) (W : World) (base : Nat) (args : Array Value) (ds gs : List (DataW H)) (before : List MemPlace)
    (hval : ∀ (j : Nat) t v, Try.f6.params[j]? = some t → args[j]? = some v → Value.okWide Try.prog W .any base t v)
    (hW : DataW.Whole enc Try.prog Try.f6.params.toList Rows.numsBackSpec.vars false W args.toList ds gs before) :
    Calls Try.prog 6 args W fun e W' => ∃ v, e = .returned v ∧ Rows.numsBackSpec.post enc Try.prog Try.f6 false true false false W args v W' := by
  have hW' := hW
  obtain ⟨p, q, hA0, hV, rfl, hfz, hnd⟩ := hW
  have hA : DataW.TrodAll enc Try.prog W 0 (fun _ => true) true Try.f6.params.toList args.toList ds p := hA0
  rw [Try.params6] at hA hval
  obtain ⟨v0, vs0, d0, ds0, p0, q0, hargs, rfl, rfl, h0, r0⟩ := trodAll_cons hA
  obtain ⟨v1, vs1, d1, ds1, p1, q1, rfl, rfl, rfl, h1, r1⟩ := trodAll_cons r0
  obtain ⟨v2, vs2, d2, ds2, p2, q2, rfl, rfl, rfl, h2, r2⟩ := trodAll_cons r1
  obtain ⟨rfl, rfl, rfl⟩ := trodAll_nil r2
  obtain rfl : args = #[v0, v1, v2] := by cases args; simp_all
  obtain ⟨rfl, rfl⟩ := trodVars_none hV
  obtain ⟨a0, rfl, rfl, rfl, w0⟩ := open_int Try.underlying22 (hval 0 22 v0 rfl rfl) h0
  obtain ⟨a1, rfl, rfl, rfl, w1⟩ := open_int Try.underlying3 (hval 1 3 v1 rfl rfl) h1
  have k2 := h2
  have lt2 : ∀ x ∈ p2, x.block < W.heap.size := by obtain ⟨m, hm⟩ := k2; exact DataW.trod_lt m _ _ _ hm
  obtain ⟨l2, rfl, hl2, wl2⟩ := open_arr_str Try.underlying40 Try.underlying9 (by kernel_rfl) (by kernel_rfl) (hval 2 40 v2 rfl rfl) h2
  obtain ⟨x2_0, x2_1, rfl⟩ : ∃ x2_0 x2_1, l2 = [x2_0, x2_1] := by
    match l2, hl2 with
    | [x2_0, x2_1], _ => exact ⟨x2_0, x2_1, rfl⟩
  clear hA0
  refine (walk a0 a1 x2_0 x2_1 w0 w1 (wl2 x2_0 (by simp)) (wl2 x2_1 (by simp)) W).mono fun e W' ⟨he, bel⟩ => ?_
  subst he
  exact ⟨_, rfl, _, _, _, [], _, [], hW', trodAll_mk1 (shut_bool Try.underlying4 _), (trodAll_cons_mk (shut_int Try.underlying22 w0) (trodAll_cons_mk (shut_int Try.underlying3 w1) (trodAll_cons_mk (Below.trod laidOut (by kernel_rfl) (of_decide_eq_true (by kernel_rfl)) k2 bel lt2) trodAll_mk0))), rfl, bel.frame _, fun h => by cases h⟩

set_option maxRecDepth 100000 in
theorem lifted (os : Os) (started : os.Started) (H : Type) (enc : TypeId × Value → H) :
    ReturnsInHanded {} Try.checked os 6 .any (Rows.numsBackSpec.pre6 enc Try.prog Try.f6 Rows.numsBackRow.domain false) (Rows.numsBackSpec.post enc Try.prog Try.f6 false true false false) := by
  refine returnsInHanded_of_change (C := Try.checked) own started (by kernel_rfl) Try.func6
    (ChangeSpec.witness6 (enc := enc) (C := Try.checked) false ⟨#[], #[.int .u64 0, .int .i64 0, .agg #[.string .empty, .string .empty]], []⟩ 8 (by kernel_rfl) (by kernel_rfl) (by kernel_rfl) (by kernel_rfl)) ?_
  intro W base args ds gs before hval hW _ _
  exact contract H enc W base args ds gs before hval hW

theorem over : Rows.numsBackRow.holds Try.pinned (OpenSpec.ofChange Rows.numsBackSpec) :=
  OpenClaim.holds_of_wide 6 Try.f6 rfl rfl rfl rfl rfl rfl rfl ⟨rfl, rfl, rfl, rfl, rfl⟩ rfl rfl rfl rfl rfl (by kernel_rfl) Try.func6 (by kernel_rfl)
    (of_decide_eq_true (by kernel_rfl)) (by unfold Func.isWrapper; first | (rw [if_pos (by decide +kernel)]; kernel_rfl) | (rw [if_neg (by decide +kernel)]; exact ⟨rfl, rfl⟩))
    (fun os started H enc _ => lifted os started H enc)
end Go.Proofs.Ytefpgpehncllnab.numsBack
namespace Go.Proofs.Ytefpgpehncllnab
theorem numsBack_proved : Rows.NumsBackSaid := numsBack.over
end Go.Proofs.Ytefpgpehncllnab

