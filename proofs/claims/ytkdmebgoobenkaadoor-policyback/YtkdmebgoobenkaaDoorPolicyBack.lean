/- For every policy and every text the law PolicyBack returns true: what is written is read, and bytes that can be read are those that are written (of at most 100 bytes, else only the document's examples are asked). The card's tie: the table of widths holds what its initialiser lays. -/
import Derived.Test.YtkdmebgoobenkaaDoorPolEq
import Derived.ShutString
namespace Go.Proofs.YtkdmebgoobenkaaDoor.policyBack
open Go.ChangeShapes Go.WideShapes Go.ChangeAt Go.RowKit
open Go.ChangeMaps (open_string shut_string)
set_option linter.unusedVariables false

/-- What a text tells, and what that policy's bytes are then. -/
theorem back (s : ByteArray) (hs : s.size ≤ maxLen) : ∃ (k l v b c : Int) (t : ByteArray) (d : Int), (∀ u, TabW u → Calls Tryd.prog 19 #[.string s] u fun e w' => e = .returned (.tuple #[.agg #[.int .i64 k, .int .i64 l, .int .i64 v, .int .i64 b], .int .i64 c]) ∧ Below u.heap.size u w') ∧ (∀ u, TabW u → Calls Tryd.prog 8 #[.agg #[.int .i64 k, .int .i64 l, .int .i64 v, .int .i64 b]] u fun e w' => e = .returned (.tuple #[.string t, .int .i64 d]) ∧ Below u.heap.size u w') ∧ ((c = 0 ∧ d = 0 ∧ t = s) ∨ (c = 2 ∨ c = 3)) := by
  by_cases h1 : s.size < 10
  · refine ⟨0, 0, 0, 0, 2, _, _, fun u ht => ?_, fun u _ => Encode_no 0 0 0 0 u (by decide), .inr (.inl rfl)⟩
    by_cases a : s.size < 1
    · exact Decode_cut0 s u ht hs (by omega) a
    by_cases b : s.size < 5
    · exact Decode_cut1 s u ht hs (by omega) b
    by_cases c : s.size < 9
    · exact Decode_cut2 s u ht hs (by omega) c
    exact Decode_cut3 s u ht hs (by omega) h1
  by_cases h2 : 10 < s.size
  · exact ⟨0, 0, 0, 0, 3, _, _, fun u ht => Decode_long s u ht hs h2, fun u _ => Encode_no 0 0 0 0 u (by decide), .inr (.inr rfl)⟩
  have h3 : s.size = 10 := by omega
  by_cases hm : MayP (fld s 0 1) (fld s 1 4) (fld s 5 4) (fld s 9 1)
  · exact ⟨_, _, _, _, 0, _, 0, fun u ht => Decode_yes s u ht h3 hm, fun u ht => Encode_yes _ _ _ _ u hm ht, .inl ⟨rfl, rfl, enc_fld s h3⟩⟩
  · exact ⟨0, 0, 0, 0, 3, _, _, fun u ht => Decode_no s u ht h3 hm, fun u _ => Encode_no 0 0 0 0 u (by decide), .inr (.inr rfl)⟩
/-- A policy's bytes, and what they tell. -/
theorem forth (k l v b : Int) : (∃ t : ByteArray, t.size = 10 ∧ (∀ u, TabW u → Calls Tryd.prog 8 #[.agg #[.int .i64 k, .int .i64 l, .int .i64 v, .int .i64 b]] u fun e w' => e = .returned (.tuple #[.string t, .int .i64 0]) ∧ Below u.heap.size u w') ∧ (∀ u, TabW u → Calls Tryd.prog 19 #[.string t] u fun e w' => e = .returned (.tuple #[.agg #[.int .i64 k, .int .i64 l, .int .i64 v, .int .i64 b], .int .i64 0]) ∧ Below u.heap.size u w') ∧ (∀ u, Calls Tryd.prog 10 #[.agg #[.int .i64 k, .int .i64 l, .int .i64 v, .int .i64 b]] u fun e w' => e = .returned (.int .i64 0) ∧ Below u.heap.size u w')) ∨
    ((∀ u, TabW u → Calls Tryd.prog 8 #[.agg #[.int .i64 k, .int .i64 l, .int .i64 v, .int .i64 b]] u fun e w' => e = .returned (.tuple #[.string ⟨#[]⟩, .int .i64 1]) ∧ Below u.heap.size u w') ∧ (∀ u, TabW u → Calls Tryd.prog 19 #[.string ⟨#[]⟩] u fun e w' => e = .returned (.tuple #[.agg #[.int .i64 0, .int .i64 0, .int .i64 0, .int .i64 0], .int .i64 2]) ∧ Below u.heap.size u w') ∧ (∀ u, Calls Tryd.prog 10 #[.agg #[.int .i64 k, .int .i64 l, .int .i64 v, .int .i64 b]] u fun e w' => e = .returned (.int .i64 1) ∧ Below u.heap.size u w')) := by
  by_cases h : MayP k l v b
  · refine .inl ⟨_, encB_size k l v b, fun u ht => Encode_yes k l v b u h ht, fun u ht => ?_, fun u => Check_yes k l v b u h⟩
    obtain ⟨a1, a2, a3, a4⟩ := h.back
    have := Decode_yes (encB k l v b) u ht (encB_size k l v b) (by rw [a1, a2, a3, a4]; exact h)
    rw [a1, a2, a3, a4] at this
    exact this
  · exact .inr ⟨fun u _ => Encode_no k l v b u h, fun u ht => Decode_cut0 _ u ht (by unfold maxLen; decide) (by decide) (by decide), fun u => Check_no k l v b u h⟩

set_option maxRecDepth 100000 in
set_option maxHeartbeats 8000000 in
theorem walk (k l v b : Int) (s : ByteArray) (h0 : (Lit.int .i64 k).wf = true) (h1 : (Lit.int .i64 l).wf = true) (h2 : (Lit.int .i64 v).wf = true) (h3 : (Lit.int .i64 b).wf = true) (hs : s.size ≤ maxLen) (W : World) (ht : TabW W) :
    Calls Tryd.prog 5 #[.agg #[.int .i64 k, .int .i64 l, .int .i64 v, .int .i64 b], .string s] W fun e w' => e = .returned (.bool true) ∧ Below W.heap.size W w' := by
  clear h0 h1 h2 h3
  by_cases h100 : 100 < s.size
  · have hs' := hs
    unfold maxLen at hs'
    have T0 := Lib.hid (ht.alloc (.cells #[.int .i64 k, .int .i64 l, .int .i64 v, .int .i64 b] 23))
    have A0 := Lib.hid (PolAt.made W k l v b 23)
    clear ht
    go_enter Tryd.func5, Tryd.ntmps5
    go_wp2_with fail
    refine (live_any _ T0.out).mono ?_; rintro e w1 ⟨rfl, hb⟩
    have A1 := Lib.hid (A0.out.step hb)
    clear hb
    go_wp2
    go_ret
    exact ⟨rfl, A1.out.be⟩
  obtain ⟨k', l', v', b', c, t, d, r1, r2, hor⟩ := back s hs
  have R1 := Lib.hid r1
  have R2 := Lib.hid r2
  clear r1 r2 hs
  rcases hor with ⟨rfl, rfl, rfl⟩ | hor
  · skip
    rcases forth k l v b with ⟨t1, ht1, q1, q2, q3⟩ | ⟨q1, q2, q3⟩
    · have Q1 := Lib.hid q1
      have Q2 := Lib.hid q2
      have Q3 := Lib.hid q3
      have n10 : ((t1.size : Int) != 10) = false := by simp; omega
      clear q1 q2 q3 ht1
      have T0 := Lib.hid (ht.alloc (.cells #[.int .i64 k, .int .i64 l, .int .i64 v, .int .i64 b] 23))
      have A0 := Lib.hid (PolAt.made W k l v b 23)
      clear ht
      go_enter Tryd.func5, Tryd.ntmps5
      go_wp2_with fail
      refine (Q1.out _ T0.out).mono ?_; rintro e w1 ⟨rfl, hb⟩
      have T1 := Lib.hid (T0.out.step hb)
      have A1 := Lib.hid (A0.out.step hb)
      clear hb T0 A0 Q1
      go_wp2_with fail
      refine (Q2.out _ T1.out).mono ?_; rintro e w2 ⟨rfl, hb⟩
      have T2 := Lib.hid ((T1.out.step hb).alloc (.cells #[.int .i64 k, .int .i64 l, .int .i64 v, .int .i64 b] 23))
      have A2 := Lib.hid ((A1.out.step hb).alloc (.cells #[.int .i64 k, .int .i64 l, .int .i64 v, .int .i64 b] 23))
      have B2 := Lib.hid (PolAt.made w2 k l v b 23)
      have a0 := A2.out.d0
      have a1 := A2.out.d1
      have a2 := A2.out.d2
      have a3 := A2.out.d3
      clear hb T1 A1 Q2
      go_wp2_with fail
      refine (Q3.out _).mono ?_; rintro e w3 ⟨rfl, hb⟩
      clear a0 a1 a2 a3
      have T3 := Lib.hid (T2.out.step hb)
      have A3 := Lib.hid (A2.out.step hb)
      have B3 := Lib.hid (B2.out.step hb)
      have a0 := A3.out.d0
      have a1 := A3.out.d1
      have a2 := A3.out.d2
      have a3 := A3.out.d3
      have b0 := B3.out.d0
      have b1 := B3.out.d1
      have b2 := B3.out.d2
      have b3 := B3.out.d3
      clear hb T2 A2 B2 Q3
      go_wp2_with fail
      refine (R1.out _ T3.out).mono ?_; rintro e w4 ⟨rfl, hb⟩
      clear a0 a1 a2 a3 b0 b1 b2 b3
      have T4 := Lib.hid ((T3.out.step hb).alloc (.cells #[.int .i64 k', .int .i64 l', .int .i64 v', .int .i64 b'] 23))
      have A4 := Lib.hid ((A3.out.step hb).alloc (.cells #[.int .i64 k', .int .i64 l', .int .i64 v', .int .i64 b'] 23))
      clear hb T3 A3 B3 R1
      go_wp2_with fail
      refine (R2.out _ T4.out).mono ?_; rintro e w5 ⟨rfl, hb⟩
      have T5 := Lib.hid (T4.out.step hb)
      have A5 := Lib.hid (A4.out.step hb)
      clear hb T4 A4 R2
      go_wp2_with fail
      refine (live_any _ T5.out).mono ?_; rintro e w6 ⟨rfl, hb⟩
      have A6 := Lib.hid (A5.out.step hb)
      clear hb
      go_wp2_with fail
      go_ret
      exact ⟨rfl, A6.out.be⟩
    · have Q1 := Lib.hid q1
      have Q2 := Lib.hid q2
      have Q3 := Lib.hid q3
      clear q1 q2 q3
      have T0 := Lib.hid (ht.alloc (.cells #[.int .i64 k, .int .i64 l, .int .i64 v, .int .i64 b] 23))
      have A0 := Lib.hid (PolAt.made W k l v b 23)
      clear ht
      go_enter Tryd.func5, Tryd.ntmps5
      go_wp2_with fail
      refine (Q1.out _ T0.out).mono ?_; rintro e w1 ⟨rfl, hb⟩
      have T1 := Lib.hid (T0.out.step hb)
      have A1 := Lib.hid (A0.out.step hb)
      clear hb T0 A0 Q1
      go_wp2_with fail
      refine (Q2.out _ T1.out).mono ?_; rintro e w2 ⟨rfl, hb⟩
      have T2 := Lib.hid ((T1.out.step hb).alloc (.cells #[.int .i64 0, .int .i64 0, .int .i64 0, .int .i64 0] 23))
      have A2 := Lib.hid ((A1.out.step hb).alloc (.cells #[.int .i64 0, .int .i64 0, .int .i64 0, .int .i64 0] 23))
      have B2 := Lib.hid (PolAt.made w2 0 0 0 0 23)
      have a0 := A2.out.d0
      have a1 := A2.out.d1
      have a2 := A2.out.d2
      have a3 := A2.out.d3
      clear hb T1 A1 Q2
      go_wp2_with fail
      refine (Q3.out _).mono ?_; rintro e w3 ⟨rfl, hb⟩
      clear a0 a1 a2 a3
      have T3 := Lib.hid (T2.out.step hb)
      have A3 := Lib.hid (A2.out.step hb)
      have B3 := Lib.hid (B2.out.step hb)
      have a0 := A3.out.d0
      have a1 := A3.out.d1
      have a2 := A3.out.d2
      have a3 := A3.out.d3
      have b0 := B3.out.d0
      have b1 := B3.out.d1
      have b2 := B3.out.d2
      have b3 := B3.out.d3
      clear hb T2 A2 B2 Q3
      go_wp2_with fail
      refine (R1.out _ T3.out).mono ?_; rintro e w4 ⟨rfl, hb⟩
      clear a0 a1 a2 a3 b0 b1 b2 b3
      have T4 := Lib.hid ((T3.out.step hb).alloc (.cells #[.int .i64 k', .int .i64 l', .int .i64 v', .int .i64 b'] 23))
      have A4 := Lib.hid ((A3.out.step hb).alloc (.cells #[.int .i64 k', .int .i64 l', .int .i64 v', .int .i64 b'] 23))
      clear hb T3 A3 B3 R1
      go_wp2_with fail
      refine (R2.out _ T4.out).mono ?_; rintro e w5 ⟨rfl, hb⟩
      have T5 := Lib.hid (T4.out.step hb)
      have A5 := Lib.hid (A4.out.step hb)
      clear hb T4 A4 R2
      go_wp2_with fail
      refine (live_any _ T5.out).mono ?_; rintro e w6 ⟨rfl, hb⟩
      have A6 := Lib.hid (A5.out.step hb)
      clear hb
      go_wp2_with fail
      go_ret
      exact ⟨rfl, A6.out.be⟩
  · have c0 : (c != 0) = true := by simp; omega
    clear hor
    rcases forth k l v b with ⟨t1, ht1, q1, q2, q3⟩ | ⟨q1, q2, q3⟩
    · have Q1 := Lib.hid q1
      have Q2 := Lib.hid q2
      have Q3 := Lib.hid q3
      have n10 : ((t1.size : Int) != 10) = false := by simp; omega
      clear q1 q2 q3 ht1
      have T0 := Lib.hid (ht.alloc (.cells #[.int .i64 k, .int .i64 l, .int .i64 v, .int .i64 b] 23))
      have A0 := Lib.hid (PolAt.made W k l v b 23)
      clear ht
      go_enter Tryd.func5, Tryd.ntmps5
      go_wp2_with fail
      refine (Q1.out _ T0.out).mono ?_; rintro e w1 ⟨rfl, hb⟩
      have T1 := Lib.hid (T0.out.step hb)
      have A1 := Lib.hid (A0.out.step hb)
      clear hb T0 A0 Q1
      go_wp2_with fail
      refine (Q2.out _ T1.out).mono ?_; rintro e w2 ⟨rfl, hb⟩
      have T2 := Lib.hid ((T1.out.step hb).alloc (.cells #[.int .i64 k, .int .i64 l, .int .i64 v, .int .i64 b] 23))
      have A2 := Lib.hid ((A1.out.step hb).alloc (.cells #[.int .i64 k, .int .i64 l, .int .i64 v, .int .i64 b] 23))
      have B2 := Lib.hid (PolAt.made w2 k l v b 23)
      have a0 := A2.out.d0
      have a1 := A2.out.d1
      have a2 := A2.out.d2
      have a3 := A2.out.d3
      clear hb T1 A1 Q2
      go_wp2_with fail
      refine (Q3.out _).mono ?_; rintro e w3 ⟨rfl, hb⟩
      clear a0 a1 a2 a3
      have T3 := Lib.hid (T2.out.step hb)
      have A3 := Lib.hid (A2.out.step hb)
      have B3 := Lib.hid (B2.out.step hb)
      have a0 := A3.out.d0
      have a1 := A3.out.d1
      have a2 := A3.out.d2
      have a3 := A3.out.d3
      have b0 := B3.out.d0
      have b1 := B3.out.d1
      have b2 := B3.out.d2
      have b3 := B3.out.d3
      clear hb T2 A2 B2 Q3
      go_wp2_with fail
      refine (R1.out _ T3.out).mono ?_; rintro e w4 ⟨rfl, hb⟩
      clear a0 a1 a2 a3 b0 b1 b2 b3
      have T4 := Lib.hid ((T3.out.step hb).alloc (.cells #[.int .i64 k', .int .i64 l', .int .i64 v', .int .i64 b'] 23))
      have A4 := Lib.hid ((A3.out.step hb).alloc (.cells #[.int .i64 k', .int .i64 l', .int .i64 v', .int .i64 b'] 23))
      clear hb T3 A3 B3 R1
      go_wp2_with fail
      refine (R2.out _ T4.out).mono ?_; rintro e w5 ⟨rfl, hb⟩
      have T5 := Lib.hid (T4.out.step hb)
      have A5 := Lib.hid (A4.out.step hb)
      clear hb T4 A4 R2
      go_wp2_with fail
      refine (live_any _ T5.out).mono ?_; rintro e w6 ⟨rfl, hb⟩
      have A6 := Lib.hid (A5.out.step hb)
      clear hb
      go_wp2_with fail
      go_ret
      exact ⟨rfl, A6.out.be⟩
    · have Q1 := Lib.hid q1
      have Q2 := Lib.hid q2
      have Q3 := Lib.hid q3
      clear q1 q2 q3
      have T0 := Lib.hid (ht.alloc (.cells #[.int .i64 k, .int .i64 l, .int .i64 v, .int .i64 b] 23))
      have A0 := Lib.hid (PolAt.made W k l v b 23)
      clear ht
      go_enter Tryd.func5, Tryd.ntmps5
      go_wp2_with fail
      refine (Q1.out _ T0.out).mono ?_; rintro e w1 ⟨rfl, hb⟩
      have T1 := Lib.hid (T0.out.step hb)
      have A1 := Lib.hid (A0.out.step hb)
      clear hb T0 A0 Q1
      go_wp2_with fail
      refine (Q2.out _ T1.out).mono ?_; rintro e w2 ⟨rfl, hb⟩
      have T2 := Lib.hid ((T1.out.step hb).alloc (.cells #[.int .i64 0, .int .i64 0, .int .i64 0, .int .i64 0] 23))
      have A2 := Lib.hid ((A1.out.step hb).alloc (.cells #[.int .i64 0, .int .i64 0, .int .i64 0, .int .i64 0] 23))
      have B2 := Lib.hid (PolAt.made w2 0 0 0 0 23)
      have a0 := A2.out.d0
      have a1 := A2.out.d1
      have a2 := A2.out.d2
      have a3 := A2.out.d3
      clear hb T1 A1 Q2
      go_wp2_with fail
      refine (Q3.out _).mono ?_; rintro e w3 ⟨rfl, hb⟩
      clear a0 a1 a2 a3
      have T3 := Lib.hid (T2.out.step hb)
      have A3 := Lib.hid (A2.out.step hb)
      have B3 := Lib.hid (B2.out.step hb)
      have a0 := A3.out.d0
      have a1 := A3.out.d1
      have a2 := A3.out.d2
      have a3 := A3.out.d3
      have b0 := B3.out.d0
      have b1 := B3.out.d1
      have b2 := B3.out.d2
      have b3 := B3.out.d3
      clear hb T2 A2 B2 Q3
      go_wp2_with fail
      refine (R1.out _ T3.out).mono ?_; rintro e w4 ⟨rfl, hb⟩
      clear a0 a1 a2 a3 b0 b1 b2 b3
      have T4 := Lib.hid ((T3.out.step hb).alloc (.cells #[.int .i64 k', .int .i64 l', .int .i64 v', .int .i64 b'] 23))
      have A4 := Lib.hid ((A3.out.step hb).alloc (.cells #[.int .i64 k', .int .i64 l', .int .i64 v', .int .i64 b'] 23))
      clear hb T3 A3 B3 R1
      go_wp2_with fail
      refine (R2.out _ T4.out).mono ?_; rintro e w5 ⟨rfl, hb⟩
      have T5 := Lib.hid (T4.out.step hb)
      have A5 := Lib.hid (A4.out.step hb)
      clear hb T4 A4 R2
      go_wp2_with fail
      refine (live_any _ T5.out).mono ?_; rintro e w6 ⟨rfl, hb⟩
      have A6 := Lib.hid (A5.out.step hb)
      clear hb
      go_wp2_with fail
      go_ret
      exact ⟨rfl, A6.out.be⟩

theorem own : ownKnob Tryd.prog.godebug = none := by kernel_rfl
theorem laidOut : laidOutB Tryd.prog = true := by kernel_rfl
theorem contract (H : Type) (enc : TypeId × Value → H) (W : World) (base : Nat) (args : Array Value) (ds gs : List (DataW H)) (before : List MemPlace)
    (hval : ∀ (j : Nat) t v, Tryd.f5.params[j]? = some t → args[j]? = some v → Value.okWide Tryd.prog W .any base t v)
    (hW : DataW.Whole enc Tryd.prog Tryd.f5.params.toList Rows.policyBackSpec.vars false W args.toList ds gs before) (hL : laidMetH Tryd.prog Rows.policyBackRow.laid W) :
    Calls Tryd.prog 5 args W fun e W' => ∃ v, e = .returned v ∧ Rows.policyBackSpec.post enc Tryd.prog Tryd.f5 false true false false W args v W' := by
  have hW' := hW
  obtain ⟨p, q, hA0, hV, rfl, hfz, hnd⟩ := hW
  have hA : DataW.TrodAll enc Tryd.prog W 0 (fun _ => true) true Tryd.f5.params.toList args.toList ds p := hA0
  rw [Tryd.params5] at hA hval
  obtain ⟨v0, vs0, d0, ds0, p0, q0, hargs, rfl, rfl, h0, r0⟩ := trodAll_cons hA
  obtain ⟨v1, vs1, d1, ds1, p1, q1, rfl, rfl, rfl, h1, r1⟩ := trodAll_cons r0
  obtain ⟨rfl, rfl, rfl⟩ := trodAll_nil r1
  obtain rfl : args = #[v0, v1] := by cases args; simp_all
  obtain ⟨rfl, rfl⟩ := trodVars_none hV
  have k0 := h0
  have lt0 : ∀ x ∈ p0, x.block < W.heap.size := by obtain ⟨m, hm⟩ := k0; exact DataW.trod_lt m _ _ _ hm
  obtain ⟨p0_k, p0_l, p0_v, p0_b, rfl, wp0_k, wp0_l, wp0_v, wp0_b⟩ := open_pol (hval 0 23 v0 rfl rfl) h0
  obtain ⟨a1, rfl, rfl, rfl, w1⟩ := open_string Tryd.underlying9 (hval 1 9 v1 rfl rfl) h1
  clear hA0
  refine (walk p0_k p0_l p0_v p0_b a1 wp0_k wp0_l wp0_v wp0_b w1 W (tabW_of hL)).mono fun e W' ⟨he, bel⟩ => ?_
  subst he
  exact ⟨_, rfl, _, _, _, [], _, [], hW', trodAll_mk1 (shut_bool Tryd.underlying4 _), (trodAll_cons_mk (Below.trod laidOut (by kernel_rfl) (of_decide_eq_true (by kernel_rfl)) k0 bel lt0) (trodAll_cons_mk (shut_string Tryd.underlying9 w1) trodAll_mk0)), rfl, bel.frame _, fun h => by cases h⟩

theorem laid_met (os : Os) : laidMet Tryd.prog Rows.policyBackRow.laid ((laidWorld os).forCall (fun _ _ => 0) ⟨#[], #[.agg #[.int .i64 0, .int .i64 0, .int .i64 0, .int .i64 0], .string .empty], []⟩).memory :=
  laidMet_of_run' 8 (by kernel_rfl) (by kernel_rfl)
theorem reads (os : Os) {H : Type} (enc : TypeId × Value → H) : ∃ places, DataW.whole enc Tryd.prog ((laidWorld os).forCall (fun _ _ => 0) ⟨#[], #[.agg #[.int .i64 0, .int .i64 0, .int .i64 0, .int .i64 0], .string .empty], []⟩).memory Tryd.f5.params.toList Rows.policyBackSpec.vars false (#[.agg #[.int .i64 0, .int .i64 0, .int .i64 0, .int .i64 0], .string .empty] : Array Value).toList 8 = some ([.agg [.lit (.int .i64 0), .lit (.int .i64 0), .lit (.int .i64 0), .lit (.int .i64 0)], .lit (.string [])], [], places) :=
  ⟨[], by kernel_rfl⟩

set_option maxRecDepth 100000 in
theorem lifted (os : Os) (started : os.Started) (H : Type) (enc : TypeId × Value → H) (F : Stop.Interp) :
    ReturnsInHanded {} Tryd.checked os 5 .any ((OpenSpec.ofChange Rows.policyBackSpec).preRow enc Tryd.prog Tryd.f5 Rows.policyBackRow.domain false Rows.policyBackRow.laid) (((OpenSpec.ofChange Rows.policyBackSpec).at F).post enc Tryd.prog Tryd.f5 false true false false) := by
  obtain ⟨places, hx⟩ := reads os enc
  refine returnsInHanded_of_row (C := Tryd.checked) (s := OpenSpec.ofChange Rows.policyBackSpec) own started (by kernel_rfl) Tryd.func5
    (witness_row_at (enc := enc) (C := Tryd.checked) false (laidWorld os) #[.agg #[.int .i64 0, .int .i64 0, .int .i64 0, .int .i64 0], .string .empty] rfl (by kernel_rfl) (by kernel_rfl) (by kernel_rfl)
      (OpenSpec.preRow_of_cond 8 hx (by kernel_rfl) (fun k hk => by cases hk) (by kernel_rfl) (laid_met os))) ?_
  intro W base args ds gs before hval hW _ _ _ hL _ _
  exact contract H enc W base args ds gs before hval hW hL

theorem said : Rows.PolicyBackSaid :=
  OpenClaim.holds_of_cond 5 Tryd.f5 rfl rfl rfl rfl rfl rfl rfl ⟨rfl, rfl, rfl, rfl, rfl⟩ rfl rfl rfl rfl rfl (by kernel_rfl) Tryd.func5 (by kernel_rfl)
    (of_decide_eq_true (by kernel_rfl)) (by unfold Func.isWrapper; first | (rw [if_pos (by decide +kernel)]; kernel_rfl) | (rw [if_neg (by decide +kernel)]; exact ⟨rfl, rfl⟩))
    (fun os started H enc _ F => by rw [OpenClaim.pre_eq_preRow]; exact lifted os started H enc F)
theorem plain (f : FuncId) (fn : Func) (hf : Tryd.pinned.checked.prog.funcNamed Rows.policyBackRow.func = some f) (hfn : Tryd.pinned.checked.prog.funcs[f]? = some fn) :
    false = Tryd.pinned.checked.prog.looks [] ∧ ∀ (j : Nat) t, fn.params[j]? = some t → Tryd.pinned.checked.prog.wantsStandIn t = false := by
  obtain rfl : f = 5 := Option.some.inj ((show Tryd.prog.funcNamed Rows.policyBackRow.func = some 5 by kernel_rfl).symm.trans hf) |>.symm
  obtain rfl : fn = Tryd.f5 := (Option.some.inj (Tryd.func5.symm.trans hfn)).symm
  refine ⟨by kernel_rfl, fun j t ht => ?_⟩
  rw [Tryd.params5] at ht
  have hm := Array.mem_of_getElem? ht
  simp only [List.mem_toArray, List.mem_cons, List.not_mem_nil, or_false] at hm
  rcases hm with rfl | rfl
  · exact (show Tryd.prog.wantsStandIn 23 = false by kernel_rfl)
  · exact (show Tryd.prog.wantsStandIn 9 = false by kernel_rfl)
theorem card : Rows.PolicyBackCardSaid :=
  Claim7.holds_tied_plain_at .later [] _ _ _ _ said (fun _ h => by cases h) (by kernel_rfl) (fun _ h => by cases h) policyBack_row_tie rfl ⟨rfl, rfl⟩ (by kernel_rfl) rfl plain (by kernel_rfl)
end Go.Proofs.YtkdmebgoobenkaaDoor.policyBack
namespace Go.Proofs.YtkdmebgoobenkaaDoor
theorem policyBack_proved : Rows.PolicyBackCardSaid := policyBack.card
end Go.Proofs.YtkdmebgoobenkaaDoor

