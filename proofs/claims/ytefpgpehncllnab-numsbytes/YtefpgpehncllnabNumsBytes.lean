/- For every number, text and place the law NumsBytes returns true: nums.Wide, Narrow and Number answer as the document's own do (of texts of at most 60 bytes, else only the document's examples are asked). No condition. -/
import Derived.Test.YtefpgpehncllnabRows
import Derived.Test.YtefpgpehncllnabNums7
import Derived.Test.YtefpgpehncllnabOpen
import Derived.Deep.QuietTactic
import Derived.BigQuiet
import Derived.WalkSmall
import Derived.Deep.RegionHeld3
namespace Go.Proofs.Ytefpgpehncllnab.numsBytes
open Go.ChangeShapes Go.WideShapes Go.ChangeAt Go.RowKit
open Go.ChangeMaps (open_string shut_string)
set_option linter.unusedVariables false

theorem quiet_mine {P : Program} {f : FuncId} {args : Array Value} {w : World} {n : Nat} {v : Value}
    (h : Calls P f args (w.drewN n) fun e w' => e = .returned v ∧ w.drewN n = w') : Calls P f args (w.drewN n) fun e w'' => e = .returned v ∧ ∃ m, w'' = w.drewN m :=
  h.mono fun _ _ ⟨he, hm⟩ => ⟨he, n, hm.symm⟩

theorem narrow_both (s : ByteArray) (hs : s.size ≤ maxLen) : ∃ (x : Int) (y : Bool),
    (∀ w, Calls Try.prog 18 #[.string s] w fun e w' => e = .returned (.tuple #[.int .u64 x, .bool y]) ∧ w = w') ∧
    (∀ w, Calls Try.prog 19 #[.string s] w fun e w' => e = .returned (.tuple #[.int .u64 x, .bool y]) ∧ w = w') := by
  by_cases h : s.size ≤ 8
  · exact ⟨_, _, fun w => Narrow_yes s w h, fun w => rNarrow_yes s w h⟩
  · exact ⟨_, _, fun w => Narrow_no s w h hs, fun w => rNarrow_no s w h hs⟩

theorem number_both (s : ByteArray) (n k : Int) (hs : s.size ≤ maxLen) : ∃ (x y z : Int),
    (∀ w, Calls Try.prog 20 #[.string s, .int .i64 n, .int .i64 k] w fun e w' => e = .returned (.tuple #[.int .u64 x, .int .i64 y, .int .i64 z]) ∧ w = w') ∧
    (∀ w, Calls Try.prog 21 #[.string s, .int .i64 n, .int .i64 k] w fun e w' => e = .returned (.tuple #[.int .u64 x, .int .i64 y, .int .i64 z]) ∧ w = w') := by
  by_cases h1 : 0 ≤ k ∧ k ≤ 8
  · by_cases h2 : 0 ≤ n ∧ n ≤ s.size
    · by_cases h3 : s.size - n < k
      · exact ⟨_, _, _, fun w => Number_cut s n k w hs h1 h2 h3, fun w => rNumber_cut s n k w hs h1 h2 h3⟩
      · obtain ⟨n, rfl⟩ := Int.eq_ofNat_of_zero_le h2.1
        obtain ⟨k, rfl⟩ := Int.eq_ofNat_of_zero_le h1.1
        exact ⟨_, _, _, fun w => Number_yes s n k w hs (by omega) (by omega), fun w => rNumber_yes s n k w hs (by omega) (by omega)⟩
    · exact ⟨_, _, _, fun w => Number_arg s n k w hs (.inr h2), fun w => rNumber_arg s n k w hs (.inr h2)⟩
  · exact ⟨_, _, _, fun w => Number_arg s n k w hs (.inl h1), fun w => rNumber_arg s n k w hs (.inl h1)⟩

theorem wide_both (n k : Int) (hn : U64 n) : ∃ (s : ByteArray),
    (∀ w, Calls Try.prog 22 #[.int .u64 n, .int .i64 k] w fun e w' => e = .returned (.string s) ∧ Below w.heap.size w w') ∧
    (∀ w, Calls Try.prog 23 #[.int .u64 n, .int .i64 k] w fun e w' => e = .returned (.string s) ∧ Below w.heap.size w w') := by
  by_cases h1 : 0 ≤ k ∧ k ≤ 8
  · obtain ⟨k, rfl⟩ := Int.eq_ofNat_of_zero_le h1.1
    exact ⟨_, fun w => Wide_yes n k w hn (by omega), fun w => rWide_yes n k w hn (by omega)⟩
  · refine ⟨⟨#[]⟩, fun w => (Wide_no n k w h1).mono ?_, fun w => (rWide_no n k w h1).mono ?_⟩
    · rintro e w' ⟨rfl, rfl⟩; exact ⟨rfl, Below.refl _ _⟩
    · rintro e w' ⟨rfl, rfl⟩; exact ⟨rfl, Below.refl _ _⟩

theorem walk (n : Int) (s : ByteArray) (x0 x1 : Int) (wn : (Lit.int .u64 n).wf = true) (hs : s.size ≤ maxLen) (w0 : (Lit.int .i64 x0).wf = true) (w1 : (Lit.int .i64 x1).wf = true) (w : World) :
    Calls Try.prog 4 #[.int .u64 n, .string s, .agg ([x0, x1].map (Value.int .i64)).toArray] w fun e w' => e = .returned (.bool true) ∧ Below w.heap.size w w' := by
  have hn := U64.of_wf wn
  clear wn w0 w1
  show Calls Try.prog 4 #[.int .u64 n, .string s, .agg #[.int .i64 x0, .int .i64 x1]] w fun e w' => e = .returned (.bool true) ∧ Below w.heap.size w w'
  by_cases h6 : 60 < s.size
  · have hs' := hs
    unfold maxLen at hs'
    go_enter Try.func4, Try.ntmps4
    go_wp2_with (first | (go_at_call 17; refine (live_any _).mono ?_; rintro e w1 ⟨rfl, hbl⟩))
    go_ret
    exact ⟨rfl, ((Below.refl _ _).alloc (Nat.le_refl _) _).trans (hbl.mono (by simp))⟩
  · obtain ⟨a1, b1, c1, c2⟩ := narrow_both s hs
    obtain ⟨a2, b2, d2, c3, c4⟩ := number_both s x0 x1 hs
    obtain ⟨t, c5, c6⟩ := wide_both n x1 hn
    have C1 := Lib.hid c1
    have C2 := Lib.hid c2
    have C3 := Lib.hid c3
    have C4 := Lib.hid c4
    have C5 := Lib.hid c5
    have C6 := Lib.hid c6
    clear c1 c2 c3 c4 c5 c6
    go_enter Try.func4, Try.ntmps4
    go_wp2_with fail
    refine (C1.out _).mono ?_; rintro e w1 ⟨rfl, rfl⟩
    go_wp2_with fail
    refine (C2.out _).mono ?_; rintro e w1 ⟨rfl, rfl⟩
    go_wp2_with fail
    refine (C3.out _).mono ?_; rintro e w1 ⟨rfl, rfl⟩
    go_wp2_with fail
    refine (C4.out _).mono ?_; rintro e w1 ⟨rfl, rfl⟩
    go_wp2_with fail
    have hc1 : (w.alloc (Obj.cells #[Value.int IntKind.i64 x0, Value.int IntKind.i64 x1] 27)).cell? ⟨w.heap.size, 1, none⟩ = some (.int .i64 x1) := by simp
    have hsz : w.heap.size < (w.alloc (Obj.cells #[Value.int IntKind.i64 x0, Value.int IntKind.i64 x1] 27)).heap.size := by simp
    have hal := (Below.refl w.heap.size w).alloc (Nat.le_refl _) (Obj.cells #[Value.int IntKind.i64 x0, Value.int IntKind.i64 x1] 27)
    generalize w.alloc (Obj.cells #[Value.int IntKind.i64 x0, Value.int IntKind.i64 x1] 27) = W at hc1 hsz hal ⊢
    go_region_held3 (fun w' => w'.cell? ⟨w.heap.size, 1, none⟩ = some (.int .i64 x1)) (first | exact hc1 | exact hc2 | exact hc3 | exact hc4 | go_keep)
      (first
        | (go_at_call 22; refine (C5.out _).mono ?_; rintro e w5 ⟨rfl, hb5⟩; have hc2 : w5.cell? ⟨w.heap.size, 1, none⟩ = some (.int .i64 x1) := (hb5.cell (p := ⟨w.heap.size, 1, none⟩) (by simpa using hsz)).trans (by simpa using hc1); have hs5 : w.heap.size < w5.heap.size := by (have := hb5.size; (try simp at this); omega))
        | (go_at_call 23; refine (C6.out _).mono ?_; rintro e w6 ⟨rfl, hb6⟩; have hc3 : w6.cell? ⟨w.heap.size, 1, none⟩ = some (.int .i64 x1) := (hb6.cell (p := ⟨w.heap.size, 1, none⟩) (by simpa using hs5)).trans (by simpa using hc2); have hs6 : w.heap.size < w6.heap.size := by (have := hb6.size; (try simp at this); omega))
        | (go_at_call 17; refine (live_any _).mono ?_; rintro e w7 ⟨rfl, hb7⟩; have hc4 : w7.cell? ⟨w.heap.size, 1, none⟩ = some (.int .i64 x1) := (hb7.cell (p := ⟨w.heap.size, 1, none⟩) (by simpa using hs6)).trans (by simpa using hc3)))
    have b5 : Below w.heap.size w w5 := (hal.drew).trans (hb5.mono (by have : W.drew.heap.size = W.heap.size := rfl; omega))
    have b6 : Below w.heap.size w w6 := b5.trans (hb6.mono (by omega))
    have b7 : Below w.heap.size w w7 := b6.trans (hb7.mono (by omega))
    clear hb5 hb6 hb7 hc1 hc2 hc3 hc4 b5 b6
    go_wp2
    go_ret
    exact ⟨rfl, b7⟩

theorem own : ownKnob Try.prog.godebug = none := by kernel_rfl
theorem laidOut : laidOutB Try.prog = true := by kernel_rfl
theorem contract (H : Type) (enc : TypeId × Value → H) (W : World) (base : Nat) (args : Array Value) (ds gs : List (DataW H)) (before : List MemPlace)
    (hval : ∀ (j : Nat) t v, Try.f4.params[j]? = some t → args[j]? = some v → Value.okWide Try.prog W .any base t v)
    (hW : DataW.Whole enc Try.prog Try.f4.params.toList Rows.numsBytesSpec.vars false W args.toList ds gs before) :
    Calls Try.prog 4 args W fun e W' => ∃ v, e = .returned v ∧ Rows.numsBytesSpec.post enc Try.prog Try.f4 false true false false W args v W' := by
  have hW' := hW
  obtain ⟨p, q, hA0, hV, rfl, hfz, hnd⟩ := hW
  have hA : DataW.TrodAll enc Try.prog W 0 (fun _ => true) true Try.f4.params.toList args.toList ds p := hA0
  rw [Try.params4] at hA hval
  obtain ⟨v0, vs0, d0, ds0, p0, q0, hargs, rfl, rfl, h0, r0⟩ := trodAll_cons hA
  obtain ⟨v1, vs1, d1, ds1, p1, q1, rfl, rfl, rfl, h1, r1⟩ := trodAll_cons r0
  obtain ⟨v2, vs2, d2, ds2, p2, q2, rfl, rfl, rfl, h2, r2⟩ := trodAll_cons r1
  obtain ⟨rfl, rfl, rfl⟩ := trodAll_nil r2
  obtain rfl : args = #[v0, v1, v2] := by cases args; simp_all
  obtain ⟨rfl, rfl⟩ := trodVars_none hV
  obtain ⟨a0, rfl, rfl, rfl, w0⟩ := open_int Try.underlying22 (hval 0 22 v0 rfl rfl) h0
  obtain ⟨a1, rfl, rfl, rfl, w1⟩ := open_string Try.underlying9 (hval 1 9 v1 rfl rfl) h1
  have k2 := h2
  have lt2 : ∀ x ∈ p2, x.block < W.heap.size := by obtain ⟨m, hm⟩ := k2; exact DataW.trod_lt m _ _ _ hm
  obtain ⟨l2, rfl, hl2, wl2⟩ := open_arr_int Try.underlying27 Try.underlying3 (by kernel_rfl) (by kernel_rfl) (hval 2 27 v2 rfl rfl) h2
  obtain ⟨x2_0, x2_1, rfl⟩ : ∃ x2_0 x2_1, l2 = [x2_0, x2_1] := by
    match l2, hl2 with
    | [x2_0, x2_1], _ => exact ⟨x2_0, x2_1, rfl⟩
  clear hA0
  refine (walk a0 a1 x2_0 x2_1 w0 w1 (wl2 x2_0 (by simp)) (wl2 x2_1 (by simp)) W).mono fun e W' ⟨he, bel⟩ => ?_
  subst he
  exact ⟨_, rfl, _, _, _, [], _, [], hW', trodAll_mk1 (shut_bool Try.underlying4 _), (trodAll_cons_mk (shut_int Try.underlying22 w0) (trodAll_cons_mk (shut_string Try.underlying9 w1) (trodAll_cons_mk (Below.trod laidOut (by kernel_rfl) (of_decide_eq_true (by kernel_rfl)) k2 bel lt2) trodAll_mk0))), rfl, bel.frame _, fun h => by cases h⟩

set_option maxRecDepth 100000 in
theorem lifted (os : Os) (started : os.Started) (H : Type) (enc : TypeId × Value → H) :
    ReturnsInHanded {} Try.checked os 4 .any (Rows.numsBytesSpec.pre6 enc Try.prog Try.f4 Rows.numsBytesRow.domain false) (Rows.numsBytesSpec.post enc Try.prog Try.f4 false true false false) := by
  refine returnsInHanded_of_change (C := Try.checked) own started (by kernel_rfl) Try.func4
    (ChangeSpec.witness6 (enc := enc) (C := Try.checked) false ⟨#[], #[.int .u64 0, .string .empty, .agg #[.int .i64 0, .int .i64 0]], []⟩ 8 (by kernel_rfl) (by kernel_rfl) (by kernel_rfl) (by kernel_rfl)) ?_
  intro W base args ds gs before hval hW _ _
  exact contract H enc W base args ds gs before hval hW

theorem over : Rows.numsBytesRow.holds Try.pinned (OpenSpec.ofChange Rows.numsBytesSpec) :=
  OpenClaim.holds_of_wide 4 Try.f4 rfl rfl rfl rfl rfl rfl rfl ⟨rfl, rfl, rfl, rfl, rfl⟩ rfl rfl rfl rfl rfl (by kernel_rfl) Try.func4 (by kernel_rfl)
    (of_decide_eq_true (by kernel_rfl)) (by unfold Func.isWrapper; first | (rw [if_pos (by decide +kernel)]; kernel_rfl) | (rw [if_neg (by decide +kernel)]; exact ⟨rfl, rfl⟩))
    (fun os started H enc _ => lifted os started H enc)
end Go.Proofs.Ytefpgpehncllnab.numsBytes
namespace Go.Proofs.Ytefpgpehncllnab
theorem numsBytes_proved : Rows.NumsBytesSaid := numsBytes.over
end Go.Proofs.Ytefpgpehncllnab

