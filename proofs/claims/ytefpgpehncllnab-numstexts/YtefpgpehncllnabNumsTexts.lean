/- For every text and every place the law NumsTexts returns true: nums.Put and Text answer as the document's own do (of at most 600 bytes, else only the document's examples are asked). No condition. -/
import Derived.Test.YtefpgpehncllnabRows
import Derived.Test.YtefpgpehncllnabNums7
import Derived.Test.YtefpgpehncllnabOpen
namespace Go.Proofs.Ytefpgpehncllnab.numsTexts
open Go.ChangeShapes Go.WideShapes Go.ChangeAt Go.RowKit
open Go.ChangeMaps (open_string shut_string)
set_option linter.unusedVariables false

/-- The four ways of a text at a place. -/
theorem ways (s : ByteArray) (n : Int) : ¬ (0 ≤ n ∧ n ≤ s.size) ∨ n = s.size ∨ (∃ (k : Nat) (h : k < s.size), n = k ∧ k + 1 + s[k].toNat ≤ s.size) ∨ (∃ (k : Nat) (h : k < s.size), n = k ∧ s.size < k + 1 + s[k].toNat) := by
  by_cases h : 0 ≤ n ∧ n ≤ s.size
  · by_cases h2 : n = s.size
    · exact .inr (.inl h2)
    · obtain ⟨k, rfl⟩ := Int.eq_ofNat_of_zero_le h.1
      have hk : k < s.size := by omega
      by_cases h3 : k + 1 + s[k].toNat ≤ s.size
      · exact .inr (.inr (.inl ⟨k, hk, rfl, h3⟩))
      · exact .inr (.inr (.inr ⟨k, hk, rfl, by omega⟩))
  · exact .inl h

/-- What Text tells, the same of both. -/
theorem text_both (s : ByteArray) (n : Int) (hs : s.size ≤ maxLen) : ∃ (t : ByteArray) (x y : Int),
    (∀ w, Calls Try.prog 26 #[.string s, .int .i64 n] w fun e w' => e = .returned (.tuple #[.string t, .int .i64 x, .int .i64 y]) ∧ w = w') ∧
    (∀ w, Calls Try.prog 27 #[.string s, .int .i64 n] w fun e w' => e = .returned (.tuple #[.string t, .int .i64 x, .int .i64 y]) ∧ w = w') := by
  rcases ways s n with h | rfl | ⟨k, hk, rfl, h⟩ | ⟨k, hk, rfl, h⟩
  · exact ⟨_, _, _, fun w => Text_arg s w n hs h, fun w => rText_arg s w n hs h⟩
  · exact ⟨_, _, _, fun w => Text_end s w hs, fun w => rText_end s w hs⟩
  · exact ⟨_, _, _, fun w => Text_yes s w k hs hk h, fun w => rText_yes s w k hs hk h⟩
  · exact ⟨_, _, _, fun w => Text_cut s w k hs hk h, fun w => rText_cut s w k hs hk h⟩
/-- What Put tells, the same of both. -/
theorem put_both (s : ByteArray) (hs : s.size ≤ maxLen) : ∃ (t : ByteArray) (x : Bool),
    (∀ w, Calls Try.prog 24 #[.string s] w fun e w' => e = .returned (.tuple #[.string t, .bool x]) ∧ Below w.heap.size w w') ∧
    (∀ w, Calls Try.prog 25 #[.string s] w fun e w' => e = .returned (.tuple #[.string t, .bool x]) ∧ Below w.heap.size w w') := by
  by_cases h : s.size ≤ 255
  · exact ⟨_, _, fun w => Put_yes s w h, fun w => rPut_yes s w h⟩
  · refine ⟨⟨#[]⟩, false, fun w => (Put_no s w (by omega) hs).mono ?_, fun w => (rPut_no s w (by omega) hs).mono ?_⟩
    · rintro e w' ⟨rfl, rfl⟩; exact ⟨rfl, Below.refl _ _⟩
    · rintro e w' ⟨rfl, rfl⟩; exact ⟨rfl, Below.refl _ _⟩

theorem walk (s : ByteArray) (n : Int) (hs : s.size ≤ maxLen) (hn : (Lit.int .i64 n).wf = true) (w : World) :
    Calls Try.prog 5 #[.string s, .int .i64 n] w fun e w' => e = .returned (.bool true) ∧ Below w.heap.size w w' := by
  by_cases h6 : 600 < s.size
  · have hs' := hs
    unfold maxLen at hs'
    go_enter Try.func5, Try.ntmps5
    go_wp2_with (first | (go_at_call 17; refine (live_any _).mono ?_; rintro e w1 ⟨rfl, hbl⟩))
    go_ret
    exact ⟨rfl, hbl⟩
  · obtain ⟨t, x, y, c1, c2⟩ := text_both s n hs
    obtain ⟨u, z, c3, c4⟩ := put_both s hs
    have C1 := Lib.hid c1
    have C2 := Lib.hid c2
    have C3 := Lib.hid c3
    have C4 := Lib.hid c4
    clear c1 c2 c3 c4
    go_enter Try.func5, Try.ntmps5
    go_wp2_with fail
    refine (C3.out _).mono ?_; rintro e w1 ⟨rfl, hb1⟩
    go_wp2_with fail
    refine (C4.out _).mono ?_; rintro e w2 ⟨rfl, hb2⟩
    go_wp2_with fail
    refine (C1.out _).mono ?_; rintro e w3 ⟨rfl, rfl⟩
    go_wp2_with fail
    refine (C2.out _).mono ?_; rintro e w3 ⟨rfl, rfl⟩
    go_wp2_with fail
    refine (live_any _).mono ?_; rintro e w3 ⟨rfl, hb3⟩
    go_wp2
    go_ret
    exact ⟨rfl, (hb1.trans (hb2.mono hb1.size)).trans (hb3.mono (Nat.le_trans hb1.size hb2.size))⟩

theorem own : ownKnob Try.prog.godebug = none := by kernel_rfl
theorem laidOut : laidOutB Try.prog = true := by kernel_rfl
theorem contract (H : Type) (enc : TypeId × Value → H) (W : World) (base : Nat) (args : Array Value) (ds gs : List (DataW H)) (before : List MemPlace)
    (hval : ∀ (j : Nat) t v, Try.f5.params[j]? = some t → args[j]? = some v → Value.okWide Try.prog W .any base t v)
    (hW : DataW.Whole enc Try.prog Try.f5.params.toList Rows.numsTextsSpec.vars false W args.toList ds gs before) :
    Calls Try.prog 5 args W fun e W' => ∃ v, e = .returned v ∧ Rows.numsTextsSpec.post enc Try.prog Try.f5 false true false false W args v W' := by
  have hW' := hW
  obtain ⟨p, q, hA0, hV, rfl, hfz, hnd⟩ := hW
  have hA : DataW.TrodAll enc Try.prog W 0 (fun _ => true) true Try.f5.params.toList args.toList ds p := hA0
  rw [Try.params5] at hA hval
  obtain ⟨v0, vs0, d0, ds0, p0, q0, hargs, rfl, rfl, h0, r0⟩ := trodAll_cons hA
  obtain ⟨v1, vs1, d1, ds1, p1, q1, rfl, rfl, rfl, h1, r1⟩ := trodAll_cons r0
  obtain ⟨rfl, rfl, rfl⟩ := trodAll_nil r1
  obtain rfl : args = #[v0, v1] := by cases args; simp_all
  obtain ⟨rfl, rfl⟩ := trodVars_none hV
  obtain ⟨a0, rfl, rfl, rfl, w0⟩ := open_string Try.underlying9 (hval 0 9 v0 rfl rfl) h0
  obtain ⟨a1, rfl, rfl, rfl, w1⟩ := open_int Try.underlying3 (hval 1 3 v1 rfl rfl) h1
  clear hA0
  refine (walk a0 a1 w0 w1 W).mono fun e W' ⟨he, bel⟩ => ?_
  subst he
  exact ⟨_, rfl, _, _, _, [], _, [], hW', trodAll_mk1 (shut_bool Try.underlying4 _), (trodAll_cons_mk (shut_string Try.underlying9 w0) (trodAll_cons_mk (shut_int Try.underlying3 w1) trodAll_mk0)), rfl, bel.frame _, fun h => by cases h⟩

set_option maxRecDepth 100000 in
theorem lifted (os : Os) (started : os.Started) (H : Type) (enc : TypeId × Value → H) :
    ReturnsInHanded {} Try.checked os 5 .any (Rows.numsTextsSpec.pre6 enc Try.prog Try.f5 Rows.numsTextsRow.domain false) (Rows.numsTextsSpec.post enc Try.prog Try.f5 false true false false) := by
  refine returnsInHanded_of_change (C := Try.checked) own started (by kernel_rfl) Try.func5
    (ChangeSpec.witness6 (enc := enc) (C := Try.checked) false ⟨#[], #[.string .empty, .int .i64 0], []⟩ 8 (by kernel_rfl) (by kernel_rfl) (by kernel_rfl) (by kernel_rfl)) ?_
  intro W base args ds gs before hval hW _ _
  exact contract H enc W base args ds gs before hval hW

theorem over : Rows.numsTextsRow.holds Try.pinned (OpenSpec.ofChange Rows.numsTextsSpec) :=
  OpenClaim.holds_of_wide 5 Try.f5 rfl rfl rfl rfl rfl rfl rfl ⟨rfl, rfl, rfl, rfl, rfl⟩ rfl rfl rfl rfl rfl (by kernel_rfl) Try.func5 (by kernel_rfl)
    (of_decide_eq_true (by kernel_rfl)) (by unfold Func.isWrapper; first | (rw [if_pos (by decide +kernel)]; kernel_rfl) | (rw [if_neg (by decide +kernel)]; exact ⟨rfl, rfl⟩))
    (fun os started H enc _ => lifted os started H enc)
end Go.Proofs.Ytefpgpehncllnab.numsTexts
namespace Go.Proofs.Ytefpgpehncllnab
theorem numsTexts_proved : Rows.NumsTextsSaid := numsTexts.over
end Go.Proofs.Ytefpgpehncllnab

