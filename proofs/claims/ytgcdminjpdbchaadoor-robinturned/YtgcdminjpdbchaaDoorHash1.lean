/- The contracts of hash.Mix, unshift, Unmix, Sum, Home, Name, over the table of steps as it is laid; and of the document's own. -/
import Derived.Test.YtgcdminjpdbchaaDoorProg
import Derived.Test.YtgcdminjpdbchaaDoorHash0
import Derived.WalkKit
import Derived.ProofKit
import Derived.OpenShut
import Derived.Below
import Derived.Laws.Bits64
import Derived.Laws.Bits64b
import Derived.Laws.BitsLemmas
import Derived.Deep.QuietTactic
import Derived.BigQuiet
import Derived.WalkSmall
-- prune
namespace Go.Proofs.YtgcdminjpdbchaaDoor
open Go.ChangeShapes Go.WideShapes Go.ChangeAt Go.RowKit
set_option linter.unusedVariables false

theorem ret_int {k : IntKind} {a b : Int} (h : a = b) : Ending.returned (.int k a) = .returned (.int k b) := by rw [h]
theorem ret_bool {a b : Bool} (h : a = b) : Ending.returned (.bool a) = .returned (.bool b) := by rw [h]
theorem val_int {k : IntKind} {a b : Int} (h : a = b) : Value.int k a = Value.int k b := by rw [h]
theorem wrapU (x : Int) : IntKind.u64.wrap x = x % 18446744073709551616 := by
  simp [IntKind.wrap, IntKind.signed, IntKind.bits]
theorem pow_int (k : Nat) : (2 : Int) ^ k = ((2 ^ k : Nat) : Int) := by simp
theorem shr_nat (a s : Nat) : (a : Int) / 2 ^ s = ((a >>> s : Nat) : Int) := by
  rw [Nat.shiftRight_eq_div_pow, pow_int]; simp
theorem xor_nat {a b : Nat} (ha : U a) (hb : U b) : bits .xor .u64 (a : Int) (b : Int) = ((a ^^^ b : Nat) : Int) := bits_xor_u64_nat a b ha hb
theorem mul_nat (a b : Nat) : IntKind.u64.wrap ((a : Int) * (b : Int)) = ((mulW a b : Nat) : Int) := by
  rw [wrapU, mulW_eq]; simp

/-- The table of steps, in memory. -/
def TabW (w : World) : Prop := 0 < w.heap.size ∧
  w.cell? ⟨0, 0, none⟩ = some (.int .u64 32) ∧ w.cell? ⟨0, 1, none⟩ = some (.int .u64 (c1 : Nat)) ∧ w.cell? ⟨0, 2, none⟩ = some (.int .u64 (b1 : Nat)) ∧
  w.cell? ⟨0, 3, none⟩ = some (.int .u64 29) ∧ w.cell? ⟨0, 4, none⟩ = some (.int .u64 (c2 : Nat)) ∧ w.cell? ⟨0, 5, none⟩ = some (.int .u64 (b2 : Nat)) ∧
  w.cell? ⟨0, 6, none⟩ = some (.int .u64 32) ∧ w.cell? ⟨0, 7, none⟩ = some (.int .u64 1) ∧ w.cell? ⟨0, 8, none⟩ = some (.int .u64 1)
theorem TabW.below {w w' : World} (h : TabW w) (hb : Below w.heap.size w w') : TabW w' := by
  obtain ⟨h0, h1, h2, h3, h4, h5, h6, h7, h8, h9⟩ := h
  exact ⟨Nat.lt_of_lt_of_le h0 hb.size, (hb.cell (p := ⟨0, 0, none⟩) h0).trans h1, (hb.cell (p := ⟨0, 1, none⟩) h0).trans h2, (hb.cell (p := ⟨0, 2, none⟩) h0).trans h3, (hb.cell (p := ⟨0, 3, none⟩) h0).trans h4, (hb.cell (p := ⟨0, 4, none⟩) h0).trans h5, (hb.cell (p := ⟨0, 5, none⟩) h0).trans h6, (hb.cell (p := ⟨0, 6, none⟩) h0).trans h7, (hb.cell (p := ⟨0, 7, none⟩) h0).trans h8, (hb.cell (p := ⟨0, 8, none⟩) h0).trans h9⟩
theorem TabW.drewN {w : World} (h : TabW w) (m : Nat) : TabW (w.drewN m) := h.below (below_drewN (Below.refl _ _) m)

/-- A value is told, and the world has but drawn. -/
def Tells (v : Value) (w : World) (e : Ending) (w' : World) : Prop := e = .returned v ∧ ∃ m, w' = w.drewN m
theorem Tells.same {v : Value} {w w' : World} {e : Ending} (h : e = .returned v ∧ w = w') : Tells v w e w' := ⟨h.1, 0, h.2.symm⟩

/-- What Mix reckons, round by round. -/
noncomputable def mixTo (n k : Nat) : Nat :=
  if k = 0 then n else if k = 1 then mulW (sx n 32) c1 else if k = 2 then mulW (sx (mulW (sx n 32) c1) 29) c2 else mixN n
theorem mixTo0 (n : Nat) : mixTo n 0 = n := by unfold mixTo; rw [if_pos rfl]
theorem mixTo1 (n : Nat) : mixTo n 1 = mulW (sx n 32) c1 := by unfold mixTo; rw [if_neg (by decide), if_pos rfl]
theorem mixTo2 (n : Nat) : mixTo n 2 = mulW (sx (mixTo n 1) 29) c2 := by rw [mixTo1]; unfold mixTo; rw [if_neg (by decide), if_neg (by decide), if_pos rfl]
theorem mixTo3 (n : Nat) : mixTo n 3 = sx (mixTo n 2) 32 := by rw [mixTo2, mixTo1]; unfold mixTo; rw [if_neg (by decide), if_neg (by decide), if_neg (by decide)]; unfold mixN; exact Eq.refl _
theorem mixToN (n : Nat) : mixTo n 3 = mixN n := by unfold mixTo; rw [if_neg (by decide), if_neg (by decide), if_neg (by decide)]
theorem mulW_one {a : Nat} (h : U a) : mulW a 1 = a := by rw [mulW_eq, Nat.mul_one]; exact Nat.mod_eq_of_lt h
theorem stepW {n c : Nat} (s : Nat) (h : U n) : IntKind.u64.wrap (bits .xor .u64 (n : Int) ((n : Int) / 2 ^ s) * (c : Int)) = ((mulW (sx n s) c : Nat) : Int) := by
  rw [shr_nat, xor_nat h (shr_u _ h), mul_nat]; unfold sx; exact Eq.refl _
theorem mix_r0 (n : Nat) : mixTo n 1 = mulW (sx (mixTo n 0) 32) c1 := by rw [mixTo0, mixTo1]
theorem mix_r1 (n : Nat) : mixTo n 2 = mulW (sx (mixTo n 1) 29) c2 := mixTo2 n
theorem mixTo_u {n : Nat} (h : U n) (k : Nat) (hk : k < 3) : U (mixTo n k) := by
  have : k = 0 ∨ k = 1 ∨ k = 2 := by omega
  rcases this with rfl | rfl | rfl
  · rw [mixTo0]; exact h
  · rw [mixTo1]; exact mulW_u _ _
  · rw [mixTo2]; exact mulW_u _ _
theorem mix_r2 {n : Nat} (h : U n) : mixTo n 3 = mulW (sx (mixTo n 2) 32) 1 := by rw [mixTo3, mulW_one (sx_u _ (mixTo_u h 2 (by omega)))]

set_option maxRecDepth 100000 in
theorem Mix_any (n : Nat) (w : World) (hn : U n) (ht : TabW w) : Calls Tryd.prog 61 #[.int .u64 n] w (Tells (.int .u64 (mixN n : Nat)) w) := by
  have HN := Lib.hid hn
  have HT := Lib.hid ht
  clear hn ht
  go_enter Tryd.func61, Tryd.ntmps61
  go_wp2
  go_loopw [0, 4] (fun x i w' => ∃ k : Nat, k ≤ 3 ∧ i = .int .i64 k ∧ x = .int .u64 (mixTo n k : Nat) ∧ ∃ m, w' = w.drewN m) (fun _ i _ => 3 - (intOf i).toNat)
  case atStart => exact ⟨0, by omega, rfl, rfl, 0, rfl⟩
  case round =>
    obtain ⟨k, hk, rfl, rfl, m, rfl⟩ := hrel
    by_cases hlt : k < 3
    · have hc : k = 0 ∨ k = 1 ∨ k = 2 := by omega
      rcases hc with rfl | rfl | rfl
      · obtain ⟨h0, t0, t1, t2, t3, t4, t5, t6, t7, t8⟩ := HT.out
        have E := Lib.hid (stepW (c := c1) 32 (mixTo_u HN.out 0 (by omega)))
        rw [← mix_r0] at E
        generalize mixTo n 0 = x at *
        clear t2 t3 t4 t5 t6 t7 t8
        go_wp2_with fail
        go_quiet (fail)
        go_wp2
        go_roundw
        case rel => exact ⟨1, by omega, by go_num, val_int E.out, m + nq, rfl⟩
        case measure => simp [intOf]
      · obtain ⟨h0, t0, t1, t2, t3, t4, t5, t6, t7, t8⟩ := HT.out
        have E := Lib.hid (stepW (c := c2) 29 (mixTo_u HN.out 1 (by omega)))
        rw [← mix_r1] at E
        generalize mixTo n 1 = x at *
        clear t0 t1 t2 t5 t6 t7 t8
        go_wp2_with fail
        go_quiet (fail)
        go_wp2
        go_roundw
        case rel => exact ⟨2, by omega, by go_num, val_int E.out, m + nq, rfl⟩
        case measure => simp [intOf]
      · obtain ⟨h0, t0, t1, t2, t3, t4, t5, t6, t7, t8⟩ := HT.out
        have E := Lib.hid (stepW (c := 1) 32 (mixTo_u HN.out 2 (by omega)))
        rw [← mix_r2 HN.out, Int.natCast_one, Int.mul_one] at E
        generalize mixTo n 2 = x at *
        clear t0 t1 t2 t3 t4 t5 t8
        go_wp2_with fail
        go_quiet (fail)
        go_wp2
        go_roundw
        case rel => exact ⟨3, by omega, by go_num, val_int E.out, m + nq, rfl⟩
        case measure => simp [intOf]
    · have E := Lib.hid (show mixTo n k = mixN n by rw [show k = 3 by omega]; exact mixToN n)
      generalize mixTo n k = x at *
      go_wp2
      go_ret
      exact ⟨ret_int (congrArg _ E.out), m, rfl⟩

theorem us32_int {n : Nat} (h : U n) : bits .xor .u64 (n : Int) ((n : Int) / 2 ^ 32) = ((us n 32 : Nat) : Int) := by
  rw [shr_nat, xor_nat h (shr_u _ h)]; unfold us; rw [if_pos rfl]
theorem us29_int {n : Nat} (h : U n) : bits .xor .u64 (bits .xor .u64 (n : Int) ((n : Int) / 2 ^ 29)) ((n : Int) / 2 ^ 58) = ((us n 29 : Nat) : Int) := by
  rw [shr_nat, shr_nat, xor_nat h (shr_u _ h), xor_nat (xor_u h (shr_u _ h)) (shr_u _ h)]; unfold us; rw [if_neg (by decide)]
theorem quiet_mine {P : Program} {f : FuncId} {args : Array Value} {w : World} {n : Nat} {v : Value}
    (h : Calls P f args (w.drewN n) fun e w' => e = .returned v ∧ w.drewN n = w') : Calls P f args (w.drewN n) fun e w'' => e = .returned v ∧ ∃ m, w'' = w.drewN m :=
  h.mono fun _ _ ⟨he, hm⟩ => ⟨he, n, hm.symm⟩
theorem wrap_u {n : Nat} (h : U n) : IntKind.u64.wrap (n : Int) = n := by rw [wrapU]; unfold U at h; omega

end Go.Proofs.YtgcdminjpdbchaaDoor
