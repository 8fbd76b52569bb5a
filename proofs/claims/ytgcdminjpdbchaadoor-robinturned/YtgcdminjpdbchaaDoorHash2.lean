/- The contracts of hash.Sum, Home, Name, and of the document's own Mix, odd, back, Unmix, Sum, Home, Name. -/
import Derived.Test.YtgcdminjpdbchaaDoorHash1
-- prune
namespace Go.Proofs.YtgcdminjpdbchaaDoor
open Go.ChangeShapes Go.WideShapes Go.ChangeAt Go.RowKit
set_option linter.unusedVariables false

theorem take_snoc (s : ByteArray) (k : Nat) (h : k < s.size) : s.data.toList.take (k + 1) = s.data.toList.take k ++ [s[k]] := by
  rw [List.take_succ_eq_append_getElem (by simpa using h)]; rfl
theorem Tells.trans {v : Value} {w w1 w2 : World} {e : Ending} (h : ∃ m, w1 = w.drewN m) (h2 : Tells v w1 e w2) : Tells v w e w2 := by
  obtain ⟨m, rfl⟩ := h
  obtain ⟨rfl, m2, rfl⟩ := h2
  exact ⟨rfl, m + m2, by rw [World.drewN_drewN]⟩
def Drew (w w' : World) : Prop := ∃ m, w' = w.drewN m
theorem Drew.refl (w : World) : Drew w w := ⟨0, rfl⟩
theorem Drew.trans {w w1 w2 : World} (h : Drew w w1) (h2 : Drew w1 w2) : Drew w w2 := by
  obtain ⟨m, rfl⟩ := h
  obtain ⟨m2, rfl⟩ := h2
  exact ⟨m + m2, by rw [World.drewN_drewN]⟩
theorem Drew.tab {w w' : World} (h : Drew w w') (ht : TabW w) : TabW w' := by obtain ⟨m, rfl⟩ := h; exact ht.drewN m
theorem Drew.below {w w' : World} (h : Drew w w') : Below w.heap.size w w' := by obtain ⟨m, rfl⟩ := h; exact below_drewN (Below.refl _ _) m
theorem Mix_go (a : Int) (n : Nat) (w : World) (e : a = n) (hn : U n) (ht : TabW w) : Calls Tryd.prog 61 #[.int .u64 a] w fun e w' => e = .returned (.int .u64 (mixN n : Nat)) ∧ Drew w w' := by
  subst e; exact Mix_any n w hn ht

theorem byte_int {x : Nat} (c : UInt8) (h : U x) : bits .xor .u64 (x : Int) (IntKind.u64.wrap (IntKind.u64.wrap ((c.toNat : Nat) : Int) + 1)) = ((x ^^^ (c.toNat + 1) : Nat) : Int) := by
  have hc := c.toNat_lt
  rw [show IntKind.u64.wrap (IntKind.u64.wrap ((c.toNat : Nat) : Int) + 1) = ((c.toNat + 1 : Nat) : Int) by rw [wrapU, wrapU]; omega]
  exact xor_nat h (byte_u c)
theorem len_int {x l : Nat} (h : U x) (hl : U l) : bits .xor .u64 (x : Int) (IntKind.u64.wrap (l : Int)) = ((x ^^^ l : Nat) : Int) := by
  rw [wrap_u hl]; exact xor_nat h hl
theorem book_int {x : Nat} (b : Int) (h : U x) : bits .xor .u64 (x : Int) (IntKind.u64.wrap b) = ((x ^^^ unS b : Nat) : Int) := by
  rw [show IntKind.u64.wrap b = ((unS b : Nat) : Int) by rw [wrapU]; unfold unS; omega]
  exact xor_nat h (unS_u b)

set_option maxRecDepth 100000 in
theorem Sum_any (seed : Nat) (s : ByteArray) (w : World) (hs : s.size ≤ maxLen) (hn : U seed) (ht : TabW w) :
    Calls Tryd.prog 54 #[.int .u64 seed, .string s] w fun e w' => e = .returned (.int .u64 (sumN seed s.data.toList : Nat)) ∧ Drew w w' := by
  have HL := Lib.hid (show U s.size by unfold U; unfold maxLen at hs; omega)
  unfold maxLen at hs
  have HN := Lib.hid hn
  have HT := Lib.hid ht
  clear hn ht
  go_enter Tryd.func54, Tryd.ntmps54
  go_wp2_with fail
  refine (Mix_go _ seed _ rfl HN.out HT.out).mono ?_
  rintro e w1 ⟨rfl, hd⟩
  have HD := Lib.hid hd
  clear hd
  go_wp2_with fail
  go_loopw [5, 11] (fun h i w' => ∃ k : Nat, k ≤ s.size ∧ i = .int .i64 k ∧ h = .int .u64 (runN (mixN seed) (s.data.toList.take k) : Nat) ∧ Drew w w') (fun _ i _ => s.size - (intOf i).toNat)
  case atStart => exact ⟨0, Nat.zero_le _, rfl, rfl, HD.out⟩
  case round =>
    obtain ⟨k, hk, rfl, rfl, hd⟩ := hrel
    have HDr := Lib.hid hd
    clear hd
    have HU := Lib.hid (runN_u (mixN_u HN.out) (s.data.toList.take k))
    have HTr := Lib.hid (HDr.out.tab HT.out)
    by_cases hlt : k < s.size
    · have HS := Lib.hid (show runN (mixN seed) (s.data.toList.take (k + 1)) = mixN (runN (mixN seed) (s.data.toList.take k) ^^^ (s[k].toNat + 1)) by rw [take_snoc s k hlt, runN_snoc]; unfold stepN; exact Eq.refl _)
      generalize runN (mixN seed) (s.data.toList.take k) = x at *
      go_wp2_with fail
      refine (Mix_go _ _ _ (byte_int s[k] HU.out) (xor_u HU.out (byte_u _)) HTr.out).mono ?_
      rintro e w2 ⟨rfl, hd⟩
      have HD2 := Lib.hid (HDr.out.trans hd)
      clear hd
      go_wp2
      go_roundw
      case rel => exact ⟨k + 1, by omega, by go_num, val_int (congrArg _ HS.out.symm), HD2.out⟩
      case measure => simp [intOf]; omega
    · have HS := Lib.hid (show sumN seed s.data.toList = mixN (runN (mixN seed) (s.data.toList.take k) ^^^ s.size) by unfold sumN; rw [List.take_of_length_le (by simp; omega)]; simp)
      generalize runN (mixN seed) (s.data.toList.take k) = x at *
      go_wp2_with fail
      refine (Mix_go _ _ _ (xor_nat HU.out HL.out) (xor_u HU.out HL.out) HTr.out).mono ?_
      rintro e w2 ⟨rfl, hd⟩
      have HD2 := Lib.hid (HDr.out.trans hd)
      clear hd
      go_wp2
      go_ret
      exact ⟨ret_int (congrArg _ HS.out.symm), HD2.out⟩
theorem Sum_go (a : Int) (seed : Nat) (s : ByteArray) (w : World) (e : a = seed) (hs : s.size ≤ maxLen) (hn : U seed) (ht : TabW w) :
    Calls Tryd.prog 54 #[.int .u64 a, .string s] w fun e w' => e = .returned (.int .u64 (sumN seed s.data.toList : Nat)) ∧ Drew w w' := by
  subst e; exact Sum_any seed s w hs hn ht
theorem home_fit {n k : Nat} (h : U n) (h1 : 1 ≤ k) (h2 : k ≤ 62) : wrap64 ((n : Int) / 2 ^ (64 - k)) = ((homeN n k : Nat) : Int) := by
  rw [shr_nat]
  have h3 : homeN n k < 2 ^ k := home_lt h (by omega)
  have h4 : 2 ^ k ≤ 2 ^ 62 := Nat.pow_le_pow_right (by decide) h2
  have h5 : homeN n k < 4611686018427387904 := Nat.lt_of_lt_of_le h3 h4
  unfold homeN at *
  generalize n >>> (64 - k) = x at *
  have : (-9223372036854775808 : Int) ≤ x ∧ (x : Int) ≤ 9223372036854775807 := by omega
  unfold wrap64
  omega
/-- The home, as it is told. -/
def homeI (n : Nat) (b : Int) : Int := if 1 ≤ b ∧ b ≤ 62 then ((homeN n b.toNat : Nat) : Int) else 0
theorem homeI_in (n k : Nat) (h1 : 1 ≤ k) (h2 : k ≤ 62) : homeI n k = ((homeN n k : Nat) : Int) := by unfold homeI; rw [if_pos (by omega)]; rfl
theorem homeI_out (n : Nat) (b : Int) (h : ¬ (1 ≤ b ∧ b ≤ 62)) : homeI n b = 0 := by unfold homeI; rw [if_neg h]
theorem Home_any (n : Nat) (b : Int) (w : World) (hn : U n) :
    Calls Tryd.prog 53 #[.int .u64 n, .int .i64 b] w fun e w' => e = .returned (.int .i64 (homeI n b)) ∧ w = w' := by
  by_cases hb : 1 ≤ b ∧ b ≤ 62
  · obtain ⟨hb1, hb2⟩ := hb
    obtain ⟨k, rfl⟩ := Int.eq_ofNat_of_zero_le (show 0 ≤ b by omega)
    have E := Lib.hid ((home_fit hn (show 1 ≤ k by omega) (show k ≤ 62 by omega)).trans (homeI_in n k (by omega) (by omega)).symm)
    clear hn
    go_enter Tryd.func53, Tryd.ntmps53
    go_wp2
    go_ret
    exact ⟨ret_int E.out, rfl⟩
  · have E := Lib.hid (homeI_out n b hb)
    clear hn
    by_cases h1 : b < 1
    · go_enter Tryd.func53, Tryd.ntmps53
      go_wp2
      go_ret
      exact ⟨ret_int E.out.symm, rfl⟩
    · have h2 : 62 < b := by omega
      clear hb
      go_enter Tryd.func53, Tryd.ntmps53
      go_wp2
      go_ret
      exact ⟨ret_int E.out.symm, rfl⟩

/- The document's own. -/
theorem xs_int {n : Nat} (s : Nat) (h : U n) : bits .xor .u64 (n : Int) ((n : Int) / 2 ^ s) = ((sx n s : Nat) : Int) := by
  rw [shr_nat, xor_nat h (shr_u _ h)]; unfold sx; exact Eq.refl _
theorem rmix_int {n : Nat} (h : U n) : bits .xor .u64 (IntKind.u64.wrap (bits .xor .u64 (IntKind.u64.wrap (bits .xor .u64 (n : Int) ((n : Int) / 2 ^ 32) * (c1 : Nat))) (IntKind.u64.wrap (bits .xor .u64 (n : Int) ((n : Int) / 2 ^ 32) * (c1 : Nat)) / 2 ^ 29) * (c2 : Nat)))
    (IntKind.u64.wrap (bits .xor .u64 (IntKind.u64.wrap (bits .xor .u64 (n : Int) ((n : Int) / 2 ^ 32) * (c1 : Nat))) (IntKind.u64.wrap (bits .xor .u64 (n : Int) ((n : Int) / 2 ^ 32) * (c1 : Nat)) / 2 ^ 29) * (c2 : Nat)) / 2 ^ 32) = ((mixN n : Nat) : Int) := by
  rw [xs_int 32 h, mul_nat, xs_int 29 (mulW_u _ _), mul_nat, xs_int 32 (mulW_u _ _)]; unfold mixN; exact Eq.refl _
theorem rMix_any (n : Nat) (w : World) (hn : U n) : Calls Tryd.prog 35 #[.int .u64 n] w fun e w' => e = .returned (.int .u64 (mixN n : Nat)) ∧ w = w' := by
  have E := Lib.hid (rmix_int hn)
  clear hn
  go_enter Tryd.func35, Tryd.ntmps35
  go_wp2
  go_ret
  exact ⟨ret_int E.out, rfl⟩
theorem rMix_go (a : Int) (n : Nat) (w : World) (e : a = n) (hn : U n) : Calls Tryd.prog 35 #[.int .u64 a] w fun e w' => e = .returned (.int .u64 (mixN n : Nat)) ∧ w = w' := by
  subst e; exact rMix_any n w hn
set_option maxRecDepth 100000 in
theorem rSum_any (a : Int) (seed : Nat) (s : ByteArray) (w : World) (ea : a = seed) (hs : s.size ≤ maxLen) (hn : U seed) :
    Calls Tryd.prog 24 #[.int .u64 a, .string s] w fun e w' => e = .returned (.int .u64 (sumN seed s.data.toList : Nat)) ∧ w = w' := by
  subst ea
  have HL := Lib.hid (show U s.size by unfold U; unfold maxLen at hs; omega)
  unfold maxLen at hs
  have HN := Lib.hid hn
  clear hn
  go_enter Tryd.func24, Tryd.ntmps24
  go_wp2_with fail
  refine (rMix_go _ seed _ rfl HN.out).mono ?_
  rintro e w1 ⟨rfl, rfl⟩
  go_wp2_with fail
  go_loopw [5, 6] (fun h i w' => ∃ k : Nat, k ≤ s.size ∧ i = .int .i64 k ∧ h = .int .u64 (runN (mixN seed) (s.data.toList.take k) : Nat) ∧ w = w') (fun _ i _ => s.size - (intOf i).toNat)
  case atStart => exact ⟨0, Nat.zero_le _, rfl, rfl, rfl⟩
  case round =>
    obtain ⟨k, hk, rfl, rfl, rfl⟩ := hrel
    have HU := Lib.hid (runN_u (mixN_u HN.out) (s.data.toList.take k))
    by_cases hlt : k < s.size
    · have HS := Lib.hid (show runN (mixN seed) (s.data.toList.take (k + 1)) = mixN (runN (mixN seed) (s.data.toList.take k) ^^^ (s[k].toNat + 1)) by rw [take_snoc s k hlt, runN_snoc]; unfold stepN; exact Eq.refl _)
      generalize runN (mixN seed) (s.data.toList.take k) = x at *
      go_wp2_with fail
      refine (rMix_go _ _ _ (byte_int s[k] HU.out) (xor_u HU.out (byte_u _))).mono ?_
      rintro e w2 ⟨rfl, rfl⟩
      go_wp2
      go_roundw
      case rel => exact ⟨k + 1, by omega, by go_num, val_int (congrArg _ HS.out.symm), trivial⟩
      case measure => simp [intOf]; omega
    · have HS := Lib.hid (show sumN seed s.data.toList = mixN (runN (mixN seed) (s.data.toList.take k) ^^^ s.size) by unfold sumN; rw [List.take_of_length_le (by simp; omega)]; simp)
      generalize runN (mixN seed) (s.data.toList.take k) = x at *
      go_wp2_with fail
      refine (rMix_go _ _ _ (xor_nat HU.out HL.out) (xor_u HU.out HL.out)).mono ?_
      rintro e w2 ⟨rfl, rfl⟩
      go_wp2
      go_ret
      exact ⟨ret_int (congrArg _ HS.out.symm), rfl⟩
theorem rHome_any (n : Nat) (b : Int) (w : World) (hn : U n) :
    Calls Tryd.prog 23 #[.int .u64 n, .int .i64 b] w fun e w' => e = .returned (.int .i64 (homeI n b)) ∧ w = w' := by
  by_cases hb : 1 ≤ b ∧ b ≤ 62
  · obtain ⟨hb1, hb2⟩ := hb
    obtain ⟨k, rfl⟩ := Int.eq_ofNat_of_zero_le (show 0 ≤ b by omega)
    have E := Lib.hid ((home_fit hn (show 1 ≤ k by omega) (show k ≤ 62 by omega)).trans (homeI_in n k (by omega) (by omega)).symm)
    clear hn
    go_enter Tryd.func23, Tryd.ntmps23
    go_wp2
    go_ret
    exact ⟨ret_int E.out, rfl⟩
  · have E := Lib.hid (homeI_out n b hb)
    clear hn
    by_cases h1 : b < 1
    · go_enter Tryd.func23, Tryd.ntmps23
      go_wp2
      go_ret
      exact ⟨ret_int E.out.symm, rfl⟩
    · have h2 : 62 < b := by omega
      clear hb
      go_enter Tryd.func23, Tryd.ntmps23
      go_wp2
      go_ret
      exact ⟨ret_int E.out.symm, rfl⟩

theorem odd_step (m i : Nat) : IntKind.u64.wrap (((oddTo m i : Nat) : Int) * IntKind.u64.wrap (2 - IntKind.u64.wrap ((m : Int) * ((oddTo m i : Nat) : Int)))) = ((oddTo m (i + 1) : Nat) : Int) := by
  simp only [oddTo]
  generalize oddTo m i = x
  rw [wrapU, wrapU, wrapU]
  have e1 : (m : Int) * (x : Int) % 18446744073709551616 = ((m * x % 18446744073709551616 : Nat) : Int) := by simp
  rw [e1]
  have h := Nat.mod_lt (m * x) (show 0 < 18446744073709551616 by decide)
  generalize m * x % 18446744073709551616 = y at *
  have e2 : (2 - (y : Int)) % 18446744073709551616 = (((18446744073709551618 - y) % 18446744073709551616 : Nat) : Int) := by omega
  rw [e2]
  generalize (18446744073709551618 - y) % 18446744073709551616 = t
  simp
theorem back_step {n x : Nat} (s : Nat) (h : U n) (hx : U x) : bits .xor .u64 (n : Int) ((x : Int) / 2 ^ s) = ((n ^^^ (x >>> s) : Nat) : Int) := by
  rw [shr_nat, xor_nat h (shr_u _ hx)]
end Go.Proofs.YtgcdminjpdbchaaDoor
