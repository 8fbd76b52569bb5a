/- For every two policies the law PolicyApart returns true: two policies that may be have the same bytes just where they are the same; all have ten. The card's tie: the table of widths holds what its initialiser lays. -/
import Derived.Test.YtkdmebgoobenkaaDoorPolEq
namespace Go.Proofs.YtkdmebgoobenkaaDoor.policyApart
open Go.ChangeShapes Go.WideShapes Go.ChangeAt Go.RowKit
set_option linter.unusedVariables false


set_option maxRecDepth 100000 in
set_option maxHeartbeats 2000000 in
theorem walk_n1 (k l v b k' l' v' b' : Int) (h : ¬ MayP k l v b) (h' : ¬ MayP k' l' v' b') (W : World) (ht : TabW W) :
    Calls Tryd.prog 7 #[.agg #[.int .i64 k, .int .i64 l, .int .i64 v, .int .i64 b], .agg #[.int .i64 k', .int .i64 l', .int .i64 v', .int .i64 b']] W fun e w' => e = .returned (.bool true) ∧ Below W.heap.size W w' := by
  have T0 := Lib.hid ((ht.alloc (.cells #[.int .i64 k, .int .i64 l, .int .i64 v, .int .i64 b] 23)).alloc (.cells #[.int .i64 k', .int .i64 l', .int .i64 v', .int .i64 b'] 23))
  have A0 := Lib.hid ((PolAt.made W k l v b 23).alloc (.cells #[.int .i64 k', .int .i64 l', .int .i64 v', .int .i64 b'] 23))
  have B0 := Lib.hid (PolAt.made (W.alloc (.cells #[.int .i64 k, .int .i64 l, .int .i64 v, .int .i64 b] 23)) k' l' v' b' 23)
  have Z : (W.alloc (.cells #[.int .i64 k, .int .i64 l, .int .i64 v, .int .i64 b] 23)).heap.size = W.heap.size + 1 := by simp
  rw [Z] at B0
  clear ht Z
  have C1 := Lib.hid (fun u (ht : TabW u) => Encode_no k l v b u h)
  have C2 := Lib.hid (fun u (ht : TabW u) => Encode_no k' l' v' b' u h')
  go_enter Tryd.func7, Tryd.ntmps7
  go_wp2_with fail
  refine (C1.out _ T0.out).mono ?_; rintro e w1 ⟨rfl, hb⟩
  have T1 := Lib.hid (T0.out.step hb)
  have A1 := Lib.hid (A0.out.step hb)
  have B1 := Lib.hid (B0.out.step hb)
  have b0 := B1.out.d0
  have b1 := B1.out.d1
  have b2 := B1.out.d2
  have b3 := B1.out.d3
  clear hb T0 A0 B0
  go_wp2_with fail
  refine (C2.out _ T1.out).mono ?_; rintro e w2 ⟨rfl, hb⟩
  clear b0 b1 b2 b3
  have T2 := Lib.hid (T1.out.step hb)
  have A2 := Lib.hid (A1.out.step hb)
  have B2 := Lib.hid (B1.out.step hb)
  have b0 := B2.out.d0
  have b1 := B2.out.d1
  have b2 := B2.out.d2
  have b3 := B2.out.d3
  have a0 := A2.out.d0
  have a1 := A2.out.d1
  have a2 := A2.out.d2
  have a3 := A2.out.d3
  clear hb T1 A1 B1
  go_wp2_with fail
  refine (live_any _ T2.out).mono ?_; rintro e w3 ⟨rfl, hb⟩
  have A3 := Lib.hid (A2.out.step hb)
  clear hb
  go_wp2_with fail
  go_ret
  exact ⟨rfl, A3.out.be⟩

set_option maxRecDepth 100000 in
set_option maxHeartbeats 2000000 in
theorem walk_n2 (k l v b k' l' v' b' : Int) (h : ¬ MayP k l v b) (h' : MayP k' l' v' b') (W : World) (ht : TabW W) :
    Calls Tryd.prog 7 #[.agg #[.int .i64 k, .int .i64 l, .int .i64 v, .int .i64 b], .agg #[.int .i64 k', .int .i64 l', .int .i64 v', .int .i64 b']] W fun e w' => e = .returned (.bool true) ∧ Below W.heap.size W w' := by
  have T0 := Lib.hid ((ht.alloc (.cells #[.int .i64 k, .int .i64 l, .int .i64 v, .int .i64 b] 23)).alloc (.cells #[.int .i64 k', .int .i64 l', .int .i64 v', .int .i64 b'] 23))
  have A0 := Lib.hid ((PolAt.made W k l v b 23).alloc (.cells #[.int .i64 k', .int .i64 l', .int .i64 v', .int .i64 b'] 23))
  have B0 := Lib.hid (PolAt.made (W.alloc (.cells #[.int .i64 k, .int .i64 l, .int .i64 v, .int .i64 b] 23)) k' l' v' b' 23)
  have Z : (W.alloc (.cells #[.int .i64 k, .int .i64 l, .int .i64 v, .int .i64 b] 23)).heap.size = W.heap.size + 1 := by simp
  rw [Z] at B0
  clear ht Z
  have C1 := Lib.hid (fun u (ht : TabW u) => Encode_no k l v b u h)
  have C2 := Lib.hid (fun u (ht : TabW u) => Encode_yes k' l' v' b' u h' ht)
  go_enter Tryd.func7, Tryd.ntmps7
  go_wp2_with fail
  refine (C1.out _ T0.out).mono ?_; rintro e w1 ⟨rfl, hb⟩
  have T1 := Lib.hid (T0.out.step hb)
  have A1 := Lib.hid (A0.out.step hb)
  have B1 := Lib.hid (B0.out.step hb)
  have b0 := B1.out.d0
  have b1 := B1.out.d1
  have b2 := B1.out.d2
  have b3 := B1.out.d3
  clear hb T0 A0 B0
  go_wp2_with fail
  refine (C2.out _ T1.out).mono ?_; rintro e w2 ⟨rfl, hb⟩
  clear b0 b1 b2 b3
  have T2 := Lib.hid (T1.out.step hb)
  have A2 := Lib.hid (A1.out.step hb)
  have B2 := Lib.hid (B1.out.step hb)
  have b0 := B2.out.d0
  have b1 := B2.out.d1
  have b2 := B2.out.d2
  have b3 := B2.out.d3
  have a0 := A2.out.d0
  have a1 := A2.out.d1
  have a2 := A2.out.d2
  have a3 := A2.out.d3
  clear hb T1 A1 B1
  go_wp2_with fail
  refine (live_any _ T2.out).mono ?_; rintro e w3 ⟨rfl, hb⟩
  have A3 := Lib.hid (A2.out.step hb)
  clear hb
  go_wp2_with fail
  go_ret
  exact ⟨rfl, A3.out.be⟩

set_option maxRecDepth 100000 in
set_option maxHeartbeats 2000000 in
theorem walk_n3 (k l v b k' l' v' b' : Int) (h : MayP k l v b) (h' : ¬ MayP k' l' v' b') (W : World) (ht : TabW W) :
    Calls Tryd.prog 7 #[.agg #[.int .i64 k, .int .i64 l, .int .i64 v, .int .i64 b], .agg #[.int .i64 k', .int .i64 l', .int .i64 v', .int .i64 b']] W fun e w' => e = .returned (.bool true) ∧ Below W.heap.size W w' := by
  have T0 := Lib.hid ((ht.alloc (.cells #[.int .i64 k, .int .i64 l, .int .i64 v, .int .i64 b] 23)).alloc (.cells #[.int .i64 k', .int .i64 l', .int .i64 v', .int .i64 b'] 23))
  have A0 := Lib.hid ((PolAt.made W k l v b 23).alloc (.cells #[.int .i64 k', .int .i64 l', .int .i64 v', .int .i64 b'] 23))
  have B0 := Lib.hid (PolAt.made (W.alloc (.cells #[.int .i64 k, .int .i64 l, .int .i64 v, .int .i64 b] 23)) k' l' v' b' 23)
  have Z : (W.alloc (.cells #[.int .i64 k, .int .i64 l, .int .i64 v, .int .i64 b] 23)).heap.size = W.heap.size + 1 := by simp
  rw [Z] at B0
  clear ht Z
  have C1 := Lib.hid (fun u (ht : TabW u) => Encode_yes k l v b u h ht)
  have C2 := Lib.hid (fun u (ht : TabW u) => Encode_no k' l' v' b' u h')
  have ne : (encB k l v b).toList.isEmpty = false := enc_ne k l v b
  go_enter Tryd.func7, Tryd.ntmps7
  go_wp2_with fail
  refine (C1.out _ T0.out).mono ?_; rintro e w1 ⟨rfl, hb⟩
  have T1 := Lib.hid (T0.out.step hb)
  have A1 := Lib.hid (A0.out.step hb)
  have B1 := Lib.hid (B0.out.step hb)
  have b0 := B1.out.d0
  have b1 := B1.out.d1
  have b2 := B1.out.d2
  have b3 := B1.out.d3
  clear hb T0 A0 B0
  go_wp2_with fail
  refine (C2.out _ T1.out).mono ?_; rintro e w2 ⟨rfl, hb⟩
  clear b0 b1 b2 b3
  have T2 := Lib.hid (T1.out.step hb)
  have A2 := Lib.hid (A1.out.step hb)
  have B2 := Lib.hid (B1.out.step hb)
  have b0 := B2.out.d0
  have b1 := B2.out.d1
  have b2 := B2.out.d2
  have b3 := B2.out.d3
  have a0 := A2.out.d0
  have a1 := A2.out.d1
  have a2 := A2.out.d2
  have a3 := A2.out.d3
  clear hb T1 A1 B1
  go_wp2_with fail
  refine (live_any _ T2.out).mono ?_; rintro e w3 ⟨rfl, hb⟩
  have A3 := Lib.hid (A2.out.step hb)
  clear hb
  go_wp2_with fail
  go_ret
  exact ⟨rfl, A3.out.be⟩

theorem same_of {k l v b k' l' v' b' : Int} (h : MayP k l v b) (h' : MayP k' l' v' b') (e : encB k l v b = encB k' l' v' b') : k = k' ∧ l = l' ∧ v = v' ∧ b = b' := by
  obtain ⟨a1, a2, a3, a4⟩ := h.back
  obtain ⟨b1, b2, b3, b4⟩ := h'.back
  rw [← e] at b1 b2 b3 b4
  exact ⟨a1.symm.trans b1, a2.symm.trans b2, a3.symm.trans b3, a4.symm.trans b4⟩

set_option maxRecDepth 100000 in
set_option maxHeartbeats 2000000 in
theorem walk_same (k l v b k' l' v' b' : Int) (h : MayP k l v b) (h' : MayP k' l' v' b') (hk : k = k') (hl : l = l') (hv : v = v') (hb' : b = b') (W : World) (ht : TabW W) :
    Calls Tryd.prog 7 #[.agg #[.int .i64 k, .int .i64 l, .int .i64 v, .int .i64 b], .agg #[.int .i64 k', .int .i64 l', .int .i64 v', .int .i64 b']] W fun e w' => e = .returned (.bool true) ∧ Below W.heap.size W w' := by
  subst hk hl hv hb'
  have T0 := Lib.hid ((ht.alloc (.cells #[.int .i64 k, .int .i64 l, .int .i64 v, .int .i64 b] 23)).alloc (.cells #[.int .i64 k, .int .i64 l, .int .i64 v, .int .i64 b] 23))
  have A0 := Lib.hid ((PolAt.made W k l v b 23).alloc (.cells #[.int .i64 k, .int .i64 l, .int .i64 v, .int .i64 b] 23))
  have B0 := Lib.hid (PolAt.made (W.alloc (.cells #[.int .i64 k, .int .i64 l, .int .i64 v, .int .i64 b] 23)) k l v b 23)
  have Z : (W.alloc (.cells #[.int .i64 k, .int .i64 l, .int .i64 v, .int .i64 b] 23)).heap.size = W.heap.size + 1 := by simp
  rw [Z] at B0
  clear ht Z
  have C1 := Lib.hid (fun u (ht : TabW u) => Encode_yes k l v b u h ht)
  have C2 := Lib.hid (fun u (ht : TabW u) => Encode_yes k l v b u h ht)
  have z1 : (encB k l v b).size = 10 := encB_size _ _ _ _
  generalize encB k l v b = s1 at *
  go_enter Tryd.func7, Tryd.ntmps7
  go_wp2_with fail
  refine (C1.out _ T0.out).mono ?_; rintro e w1 ⟨rfl, hb⟩
  have T1 := Lib.hid (T0.out.step hb)
  have A1 := Lib.hid (A0.out.step hb)
  have B1 := Lib.hid (B0.out.step hb)
  have b0 := B1.out.d0
  have b1 := B1.out.d1
  have b2 := B1.out.d2
  have b3 := B1.out.d3
  clear hb T0 A0 B0
  go_wp2_with fail
  refine (C2.out _ T1.out).mono ?_; rintro e w2 ⟨rfl, hb⟩
  clear b0 b1 b2 b3
  have T2 := Lib.hid (T1.out.step hb)
  have A2 := Lib.hid (A1.out.step hb)
  have B2 := Lib.hid (B1.out.step hb)
  have b0 := B2.out.d0
  have b1 := B2.out.d1
  have b2 := B2.out.d2
  have b3 := B2.out.d3
  have a0 := A2.out.d0
  have a1 := A2.out.d1
  have a2 := A2.out.d2
  have a3 := A2.out.d3
  clear hb T1 A1 B1
  go_wp2_with fail
  refine (live_any _ T2.out).mono ?_; rintro e w3 ⟨rfl, hb⟩
  have A3 := Lib.hid (A2.out.step hb)
  clear hb
  go_wp2_with fail
  go_ret
  exact ⟨rfl, A3.out.be⟩

set_option maxRecDepth 100000 in
set_option maxHeartbeats 2000000 in
theorem walk_yes (k l v b k' l' v' b' : Int) (h : MayP k l v b) (h' : MayP k' l' v' b') (hn : ¬ (k = k' ∧ l = l' ∧ v = v' ∧ b = b')) (W : World) (ht : TabW W) :
    Calls Tryd.prog 7 #[.agg #[.int .i64 k, .int .i64 l, .int .i64 v, .int .i64 b], .agg #[.int .i64 k', .int .i64 l', .int .i64 v', .int .i64 b']] W fun e w' => e = .returned (.bool true) ∧ Below W.heap.size W w' := by
  have T0 := Lib.hid ((ht.alloc (.cells #[.int .i64 k, .int .i64 l, .int .i64 v, .int .i64 b] 23)).alloc (.cells #[.int .i64 k', .int .i64 l', .int .i64 v', .int .i64 b'] 23))
  have A0 := Lib.hid ((PolAt.made W k l v b 23).alloc (.cells #[.int .i64 k', .int .i64 l', .int .i64 v', .int .i64 b'] 23))
  have B0 := Lib.hid (PolAt.made (W.alloc (.cells #[.int .i64 k, .int .i64 l, .int .i64 v, .int .i64 b] 23)) k' l' v' b' 23)
  have Z : (W.alloc (.cells #[.int .i64 k, .int .i64 l, .int .i64 v, .int .i64 b] 23)).heap.size = W.heap.size + 1 := by simp
  rw [Z] at B0
  clear ht Z
  have C1 := Lib.hid (fun u (ht : TabW u) => Encode_yes k l v b u h ht)
  have C2 := Lib.hid (fun u (ht : TabW u) => Encode_yes k' l' v' b' u h' ht)
  have z1 : (encB k l v b).size = 10 := encB_size _ _ _ _
  have z2 : (encB k' l' v' b').size = 10 := encB_size _ _ _ _
  have ne : ¬ encB k l v b = encB k' l' v' b' := fun e => hn (same_of h h' e)
  generalize encB k l v b = s1 at *
  generalize encB k' l' v' b' = s2 at *
  have n1 := str_ne ne
  have n2 := pol_ne hn
  clear ne hn
  clear h h'
  go_enter Tryd.func7, Tryd.ntmps7
  go_wp2_with fail
  refine (C1.out _ T0.out).mono ?_; rintro e w1 ⟨rfl, hb⟩
  have T1 := Lib.hid (T0.out.step hb)
  have A1 := Lib.hid (A0.out.step hb)
  have B1 := Lib.hid (B0.out.step hb)
  have b0 := B1.out.d0
  have b1 := B1.out.d1
  have b2 := B1.out.d2
  have b3 := B1.out.d3
  clear hb T0 A0 B0
  go_wp2_with fail
  refine (C2.out _ T1.out).mono ?_; rintro e w2 ⟨rfl, hb⟩
  clear b0 b1 b2 b3
  have T2 := Lib.hid (T1.out.step hb)
  have A2 := Lib.hid (A1.out.step hb)
  have B2 := Lib.hid (B1.out.step hb)
  have b0 := B2.out.d0
  have b1 := B2.out.d1
  have b2 := B2.out.d2
  have b3 := B2.out.d3
  have a0 := A2.out.d0
  have a1 := A2.out.d1
  have a2 := A2.out.d2
  have a3 := A2.out.d3
  clear hb T1 A1 B1
  go_wp2_with fail
  refine (live_any _ T2.out).mono ?_; rintro e w3 ⟨rfl, hb⟩
  have A3 := Lib.hid (A2.out.step hb)
  clear hb
  go_wp2_with fail
  go_ret
  exact ⟨rfl, A3.out.be⟩

theorem walk (k l v b k' l' v' b' : Int) (h0 : (Lit.int .i64 k).wf = true) (h1 : (Lit.int .i64 l).wf = true) (h2 : (Lit.int .i64 v).wf = true) (h3 : (Lit.int .i64 b).wf = true) (g0 : (Lit.int .i64 k').wf = true) (g1 : (Lit.int .i64 l').wf = true) (g2 : (Lit.int .i64 v').wf = true) (g3 : (Lit.int .i64 b').wf = true) (W : World) (ht : TabW W) :
    Calls Tryd.prog 7 #[.agg #[.int .i64 k, .int .i64 l, .int .i64 v, .int .i64 b], .agg #[.int .i64 k', .int .i64 l', .int .i64 v', .int .i64 b']] W fun e w' => e = .returned (.bool true) ∧ Below W.heap.size W w' := by
  by_cases h : MayP k l v b <;> by_cases h' : MayP k' l' v' b'
  · by_cases hn : k = k' ∧ l = l' ∧ v = v' ∧ b = b'
    · exact walk_same k l v b k' l' v' b' h h' hn.1 hn.2.1 hn.2.2.1 hn.2.2.2 W ht
    · exact walk_yes k l v b k' l' v' b' h h' hn W ht
  · exact walk_n3 k l v b k' l' v' b' h h' W ht
  · exact walk_n2 k l v b k' l' v' b' h h' W ht
  · exact walk_n1 k l v b k' l' v' b' h h' W ht

theorem own : ownKnob Tryd.prog.godebug = none := by kernel_rfl
theorem laidOut : laidOutB Tryd.prog = true := by kernel_rfl
theorem contract (H : Type) (enc : TypeId × Value → H) (W : World) (base : Nat) (args : Array Value) (ds gs : List (DataW H)) (before : List MemPlace)
    (hval : ∀ (j : Nat) t v, Tryd.f7.params[j]? = some t → args[j]? = some v → Value.okWide Tryd.prog W .any base t v)
    (hW : DataW.Whole enc Tryd.prog Tryd.f7.params.toList Rows.policyApartSpec.vars false W args.toList ds gs before) (hL : laidMetH Tryd.prog Rows.policyApartRow.laid W) :
    Calls Tryd.prog 7 args W fun e W' => ∃ v, e = .returned v ∧ Rows.policyApartSpec.post enc Tryd.prog Tryd.f7 false true false false W args v W' := by
  have hW' := hW
  obtain ⟨p, q, hA0, hV, rfl, hfz, hnd⟩ := hW
  have hA : DataW.TrodAll enc Tryd.prog W 0 (fun _ => true) true Tryd.f7.params.toList args.toList ds p := hA0
  rw [Tryd.params7] at hA hval
  obtain ⟨v0, vs0, d0, ds0, p0, q0, hargs, rfl, rfl, h0, r0⟩ := trodAll_cons hA
  obtain ⟨v1, vs1, d1, ds1, p1, q1, rfl, rfl, rfl, h1, r1⟩ := trodAll_cons r0
  obtain ⟨rfl, rfl, rfl⟩ := trodAll_nil r1
  obtain rfl : args = #[v0, v1] := by cases args; simp_all
  obtain ⟨rfl, rfl⟩ := trodVars_none hV
  have k0 := h0
  have lt0 : ∀ x ∈ p0, x.block < W.heap.size := by obtain ⟨m, hm⟩ := k0; exact DataW.trod_lt m _ _ _ hm
  obtain ⟨p0_k, p0_l, p0_v, p0_b, rfl, wp0_k, wp0_l, wp0_v, wp0_b⟩ := open_pol (hval 0 23 v0 rfl rfl) h0
  have k1 := h1
  have lt1 : ∀ x ∈ p1, x.block < W.heap.size := by obtain ⟨m, hm⟩ := k1; exact DataW.trod_lt m _ _ _ hm
  obtain ⟨p1_k, p1_l, p1_v, p1_b, rfl, wp1_k, wp1_l, wp1_v, wp1_b⟩ := open_pol (hval 1 23 v1 rfl rfl) h1
  clear hA0
  refine (walk p0_k p0_l p0_v p0_b p1_k p1_l p1_v p1_b wp0_k wp0_l wp0_v wp0_b wp1_k wp1_l wp1_v wp1_b W (tabW_of hL)).mono fun e W' ⟨he, bel⟩ => ?_
  subst he
  exact ⟨_, rfl, _, _, _, [], _, [], hW', trodAll_mk1 (shut_bool Tryd.underlying4 _), (trodAll_cons_mk (Below.trod laidOut (by kernel_rfl) (of_decide_eq_true (by kernel_rfl)) k0 bel lt0) (trodAll_cons_mk (Below.trod laidOut (by kernel_rfl) (of_decide_eq_true (by kernel_rfl)) k1 bel lt1) trodAll_mk0)), rfl, bel.frame _, fun h => by cases h⟩

theorem laid_met (os : Os) : laidMet Tryd.prog Rows.policyApartRow.laid ((laidWorld os).forCall (fun _ _ => 0) ⟨#[], #[.agg #[.int .i64 0, .int .i64 0, .int .i64 0, .int .i64 0], .agg #[.int .i64 0, .int .i64 0, .int .i64 0, .int .i64 0]], []⟩).memory :=
  laidMet_of_run' 8 (by kernel_rfl) (by kernel_rfl)
theorem reads (os : Os) {H : Type} (enc : TypeId × Value → H) : ∃ places, DataW.whole enc Tryd.prog ((laidWorld os).forCall (fun _ _ => 0) ⟨#[], #[.agg #[.int .i64 0, .int .i64 0, .int .i64 0, .int .i64 0], .agg #[.int .i64 0, .int .i64 0, .int .i64 0, .int .i64 0]], []⟩).memory Tryd.f7.params.toList Rows.policyApartSpec.vars false (#[.agg #[.int .i64 0, .int .i64 0, .int .i64 0, .int .i64 0], .agg #[.int .i64 0, .int .i64 0, .int .i64 0, .int .i64 0]] : Array Value).toList 8 = some ([.agg [.lit (.int .i64 0), .lit (.int .i64 0), .lit (.int .i64 0), .lit (.int .i64 0)], .agg [.lit (.int .i64 0), .lit (.int .i64 0), .lit (.int .i64 0), .lit (.int .i64 0)]], [], places) :=
  ⟨[], by kernel_rfl⟩

set_option maxRecDepth 100000 in
theorem lifted (os : Os) (started : os.Started) (H : Type) (enc : TypeId × Value → H) (F : Stop.Interp) :
    ReturnsInHanded {} Tryd.checked os 7 .any ((OpenSpec.ofChange Rows.policyApartSpec).preRow enc Tryd.prog Tryd.f7 Rows.policyApartRow.domain false Rows.policyApartRow.laid) (((OpenSpec.ofChange Rows.policyApartSpec).at F).post enc Tryd.prog Tryd.f7 false true false false) := by
  obtain ⟨places, hx⟩ := reads os enc
  refine returnsInHanded_of_row (C := Tryd.checked) (s := OpenSpec.ofChange Rows.policyApartSpec) own started (by kernel_rfl) Tryd.func7
    (witness_row_at (enc := enc) (C := Tryd.checked) false (laidWorld os) #[.agg #[.int .i64 0, .int .i64 0, .int .i64 0, .int .i64 0], .agg #[.int .i64 0, .int .i64 0, .int .i64 0, .int .i64 0]] rfl (by kernel_rfl) (by kernel_rfl) (by kernel_rfl)
      (OpenSpec.preRow_of_cond 8 hx (by kernel_rfl) (fun k hk => by cases hk) (by kernel_rfl) (laid_met os))) ?_
  intro W base args ds gs before hval hW _ _ _ hL _ _
  exact contract H enc W base args ds gs before hval hW hL

theorem said : Rows.PolicyApartSaid :=
  OpenClaim.holds_of_cond 7 Tryd.f7 rfl rfl rfl rfl rfl rfl rfl ⟨rfl, rfl, rfl, rfl, rfl⟩ rfl rfl rfl rfl rfl (by kernel_rfl) Tryd.func7 (by kernel_rfl)
    (of_decide_eq_true (by kernel_rfl)) (by unfold Func.isWrapper; first | (rw [if_pos (by decide +kernel)]; kernel_rfl) | (rw [if_neg (by decide +kernel)]; exact ⟨rfl, rfl⟩))
    (fun os started H enc _ F => by rw [OpenClaim.pre_eq_preRow]; exact lifted os started H enc F)
theorem plain (f : FuncId) (fn : Func) (hf : Tryd.pinned.checked.prog.funcNamed Rows.policyApartRow.func = some f) (hfn : Tryd.pinned.checked.prog.funcs[f]? = some fn) :
    false = Tryd.pinned.checked.prog.looks [] ∧ ∀ (j : Nat) t, fn.params[j]? = some t → Tryd.pinned.checked.prog.wantsStandIn t = false := by
  obtain rfl : f = 7 := Option.some.inj ((show Tryd.prog.funcNamed Rows.policyApartRow.func = some 7 by kernel_rfl).symm.trans hf) |>.symm
  obtain rfl : fn = Tryd.f7 := (Option.some.inj (Tryd.func7.symm.trans hfn)).symm
  refine ⟨by kernel_rfl, fun j t ht => ?_⟩
  rw [Tryd.params7] at ht
  have hm := Array.mem_of_getElem? ht
  simp only [List.mem_toArray, List.mem_cons, List.not_mem_nil, or_false] at hm
  rcases hm with rfl | rfl
  · exact (show Tryd.prog.wantsStandIn 23 = false by kernel_rfl)
  · exact (show Tryd.prog.wantsStandIn 23 = false by kernel_rfl)
theorem card : Rows.PolicyApartCardSaid :=
  Claim7.holds_tied_plain_at .later [] _ _ _ _ said (fun _ h => by cases h) (by kernel_rfl) (fun _ h => by cases h) policyApart_row_tie rfl ⟨rfl, rfl⟩ (by kernel_rfl) rfl plain (by kernel_rfl)
end Go.Proofs.YtkdmebgoobenkaaDoor.policyApart
namespace Go.Proofs.YtkdmebgoobenkaaDoor
theorem policyApart_proved : Rows.PolicyApartCardSaid := policyApart.card
end Go.Proofs.YtkdmebgoobenkaaDoor

