/- For all texts, seeds and books the law HashSeeds returns true: the sums of one text by two seeds are the same just where the seeds are, and likewise of two books, by one seed (of at most 100 bytes, else only the document's examples are asked). The card's tie: the table of steps holds what its initialiser lays. -/
import Derived.Test.YtdchoaihbjmpbaaDoorHashLive
import Derived.ShutString
namespace Go.Proofs.YtdchoaihbjmpbaaDoor.hashSeeds
open Go.ChangeShapes Go.WideShapes Go.ChangeAt Go.RowKit
open Go.ChangeMaps (open_string shut_string)
set_option linter.unusedVariables false

theorem seeds_b {a b : Nat} {l : List UInt8} (ha : U a) (hb : U b) (hl : l.length ≤ 100) : (((sumN a l : Nat) : Int) == ((sumN b l : Nat) : Int)) = ((a : Int) == (b : Int)) :=
  eqb (by rw [sum_seeds ha hb (by unfold U; omega)]; omega)
theorem books_b {a : Nat} {x y : Int} {l : List UInt8} (ha : U a) (hx : -9223372036854775808 ≤ x ∧ x < 9223372036854775808) (hy : -9223372036854775808 ≤ y ∧ y < 9223372036854775808) (hl : l.length ≤ 100) :
    (((nameN a x l : Nat) : Int) == ((nameN a y l : Nat) : Int)) = (x == y) := by
  have h1 := xor_u ha (unS_u x)
  have h2 := xor_u ha (unS_u y)
  refine eqb ?_
  unfold nameN
  rw [sum_seeds (mixN_u h1) (mixN_u h2) (by unfold U; omega), mix_inj h1 h2, xor_inj', unS_inj hx hy]

set_option maxRecDepth 100000 in
set_option maxHeartbeats 1000000 in
theorem walk (s : ByteArray) (x0 x1 y0 y1 : Int) (hs : s.size ≤ maxLen) (w0 : (Lit.int .u64 x0).wf = true) (w1 : (Lit.int .u64 x1).wf = true) (w2 : (Lit.int .i64 y0).wf = true) (w3 : (Lit.int .i64 y1).wf = true) (W : World) (ht : TabW W) :
    Calls Tryd.prog 5 #[.string s, .agg ([x0, x1].map (Value.int .u64)).toArray, .agg ([y0, y1].map (Value.int .i64)).toArray] W fun e w' => e = .returned (.bool true) ∧ Below W.heap.size W w' := by
  obtain ⟨a, rfl, ha⟩ := wf_u w0
  obtain ⟨b, rfl, hb⟩ := wf_u w1
  have hy0 := wf_i w2
  have hy1 := wf_i w3
  have hsl : s.data.toList.length = s.size := by simp
  show Calls Tryd.prog 5 #[.string s, .agg #[.int .u64 a, .int .u64 b], .agg #[.int .i64 y0, .int .i64 y1]] W fun e w' => e = .returned (.bool true) ∧ Below W.heap.size W w'
  have B0 : Hid (Below W.heap.size W ((W.alloc (.cells #[.int .u64 a, .int .u64 b] 31)).alloc (.cells #[.int .i64 y0, .int .i64 y1] 23))) := ((Below.refl _ _).alloc (Nat.le_refl _) _).alloc (by simp) _
  have HT := Lib.hid (ht.below B0.out)
  have HA := Lib.hid ha
  have HB := Lib.hid hb
  clear ht w0 w1 w2 w3
  by_cases h100 : 100 < s.size
  · clear ha hb hy0 hy1 hsl
    go_enter Tryd.func5, Tryd.ntmps5
    go_wp2_with fail
    refine (live_any _ HT.out).mono ?_
    rintro e w1 ⟨rfl, hd⟩
    have D1 := Lib.hid hd
    clear hd
    go_wp2
    go_ret
    exact ⟨rfl, B0.out.trans (D1.out.below.mono B0.out.size)⟩
  · have HS1 := Lib.hid (seeds_b (l := s.data.toList) ha hb (by omega))
    have HS2 := Lib.hid (books_b (l := s.data.toList) ha hy0 hy1 (by omega))
    clear ha hb hy0 hy1 hsl
    go_enter Tryd.func5, Tryd.ntmps5
    go_wp2_with fail
    refine (Sum_go _ a s _ rfl hs HA.out HT.out).mono ?_
    rintro e w1 ⟨rfl, hd⟩
    obtain ⟨m1, rfl⟩ := hd
    go_wp2_with fail
    refine (Sum_go _ b s _ rfl hs HB.out (by exact HT.out.drewN _)).mono ?_
    rintro e w2 ⟨rfl, hd⟩
    obtain ⟨m2, rfl⟩ := hd
    go_wp2_with fail
    refine (Name_any a y0 s _ hs HA.out (by exact HT.out.drewN _)).mono ?_
    rintro e w3 ⟨rfl, hd⟩
    obtain ⟨m3, rfl⟩ := hd
    go_wp2_with fail
    refine (Name_any a y1 s _ hs HA.out (by exact HT.out.drewN _)).mono ?_
    rintro e w4 ⟨rfl, hd⟩
    obtain ⟨m4, rfl⟩ := hd
    have T1 := HS1.out
    have T2 := HS2.out
    generalize sumN a s.data.toList = p at *
    generalize sumN b s.data.toList = q at *
    generalize nameN a y0 s.data.toList = r at *
    generalize nameN a y1 s.data.toList = t at *
    go_wp2_with fail
    refine (live_any _ (by exact HT.out.drewN _)).mono ?_
    rintro e w5 ⟨rfl, hd⟩
    obtain ⟨m5, rfl⟩ := hd
    go_wp2
    go_ret
    exact ⟨rfl, below_drewN B0.out _⟩

theorem own : ownKnob Tryd.prog.godebug = none := by kernel_rfl
theorem laidOut : laidOutB Tryd.prog = true := by kernel_rfl
theorem contract (H : Type) (enc : TypeId × Value → H) (W : World) (base : Nat) (args : Array Value) (ds gs : List (DataW H)) (before : List MemPlace)
    (hval : ∀ (j : Nat) t v, Tryd.f5.params[j]? = some t → args[j]? = some v → Value.okWide Tryd.prog W .any base t v)
    (hW : DataW.Whole enc Tryd.prog Tryd.f5.params.toList Rows.hashSeedsSpec.vars false W args.toList ds gs before) (hL : laidMetH Tryd.prog Rows.hashSeedsRow.laid W) :
    Calls Tryd.prog 5 args W fun e W' => ∃ v, e = .returned v ∧ Rows.hashSeedsSpec.post enc Tryd.prog Tryd.f5 false true false false W args v W' := by
  have hW' := hW
  obtain ⟨p, q, hA0, hV, rfl, hfz, hnd⟩ := hW
  have hA : DataW.TrodAll enc Tryd.prog W 0 (fun _ => true) true Tryd.f5.params.toList args.toList ds p := hA0
  rw [Tryd.params5] at hA hval
  obtain ⟨v0, vs0, d0, ds0, p0, q0, hargs, rfl, rfl, h0, r0⟩ := trodAll_cons hA
  obtain ⟨v1, vs1, d1, ds1, p1, q1, rfl, rfl, rfl, h1, r1⟩ := trodAll_cons r0
  obtain ⟨v2, vs2, d2, ds2, p2, q2, rfl, rfl, rfl, h2, r2⟩ := trodAll_cons r1
  obtain ⟨rfl, rfl, rfl⟩ := trodAll_nil r2
  obtain rfl : args = #[v0, v1, v2] := by cases args; simp_all
  obtain ⟨rfl, rfl⟩ := trodVars_none hV
  obtain ⟨a0, rfl, rfl, rfl, w0⟩ := open_string Tryd.underlying9 (hval 0 9 v0 rfl rfl) h0
  have k1 := h1
  have lt1 : ∀ x ∈ p1, x.block < W.heap.size := by obtain ⟨m, hm⟩ := k1; exact DataW.trod_lt m _ _ _ hm
  obtain ⟨l1, rfl, hl1, wl1⟩ := open_arr_int Tryd.underlying31 Tryd.underlying22 (by kernel_rfl) (by kernel_rfl) (hval 1 31 v1 rfl rfl) h1
  obtain ⟨x1_0, x1_1, rfl⟩ : ∃ x1_0 x1_1, l1 = [x1_0, x1_1] := by
    match l1, hl1 with
    | [x1_0, x1_1], _ => exact ⟨x1_0, x1_1, rfl⟩
  have k2 := h2
  have lt2 : ∀ x ∈ p2, x.block < W.heap.size := by obtain ⟨m, hm⟩ := k2; exact DataW.trod_lt m _ _ _ hm
  obtain ⟨l2, rfl, hl2, wl2⟩ := open_arr_int Tryd.underlying23 Tryd.underlying3 (by kernel_rfl) (by kernel_rfl) (hval 2 23 v2 rfl rfl) h2
  obtain ⟨x2_0, x2_1, rfl⟩ : ∃ x2_0 x2_1, l2 = [x2_0, x2_1] := by
    match l2, hl2 with
    | [x2_0, x2_1], _ => exact ⟨x2_0, x2_1, rfl⟩
  clear hA0
  refine (walk a0 x1_0 x1_1 x2_0 x2_1 w0 (wl1 x1_0 (by simp)) (wl1 x1_1 (by simp)) (wl2 x2_0 (by simp)) (wl2 x2_1 (by simp)) W (tabW_of hL)).mono fun e W' ⟨he, bel⟩ => ?_
  subst he
  exact ⟨_, rfl, _, _, _, [], _, [], hW', trodAll_mk1 (shut_bool Tryd.underlying4 _), (trodAll_cons_mk (shut_string Tryd.underlying9 w0) (trodAll_cons_mk (Below.trod laidOut (by kernel_rfl) (of_decide_eq_true (by kernel_rfl)) k1 bel lt1) (trodAll_cons_mk (Below.trod laidOut (by kernel_rfl) (of_decide_eq_true (by kernel_rfl)) k2 bel lt2) trodAll_mk0))), rfl, bel.frame _, fun h => by cases h⟩

theorem laid_met (os : Os) : laidMet Tryd.prog Rows.hashSeedsRow.laid ((laidWorld os).forCall (fun _ _ => 0) ⟨#[], #[.string .empty, .agg #[.int .u64 0, .int .u64 0], .agg #[.int .i64 0, .int .i64 0]], []⟩).memory :=
  laidMet_of_run' 8 (by kernel_rfl) (by kernel_rfl)
theorem reads (os : Os) {H : Type} (enc : TypeId × Value → H) : ∃ places, DataW.whole enc Tryd.prog ((laidWorld os).forCall (fun _ _ => 0) ⟨#[], #[.string .empty, .agg #[.int .u64 0, .int .u64 0], .agg #[.int .i64 0, .int .i64 0]], []⟩).memory Tryd.f5.params.toList Rows.hashSeedsSpec.vars false (#[.string .empty, .agg #[.int .u64 0, .int .u64 0], .agg #[.int .i64 0, .int .i64 0]] : Array Value).toList 8 = some ([.lit (.string []), .agg [.lit (.int .u64 0), .lit (.int .u64 0)], .agg [.lit (.int .i64 0), .lit (.int .i64 0)]], [], places) :=
  ⟨[], by kernel_rfl⟩

set_option maxRecDepth 100000 in
theorem lifted (os : Os) (started : os.Started) (H : Type) (enc : TypeId × Value → H) (F : Stop.Interp) :
    ReturnsInHanded {} Tryd.checked os 5 .any ((OpenSpec.ofChange Rows.hashSeedsSpec).preRow enc Tryd.prog Tryd.f5 Rows.hashSeedsRow.domain false Rows.hashSeedsRow.laid) (((OpenSpec.ofChange Rows.hashSeedsSpec).at F).post enc Tryd.prog Tryd.f5 false true false false) := by
  obtain ⟨places, hx⟩ := reads os enc
  refine returnsInHanded_of_row (C := Tryd.checked) (s := OpenSpec.ofChange Rows.hashSeedsSpec) own started (by kernel_rfl) Tryd.func5
    (witness_row_at (enc := enc) (C := Tryd.checked) false (laidWorld os) #[.string .empty, .agg #[.int .u64 0, .int .u64 0], .agg #[.int .i64 0, .int .i64 0]] rfl (by kernel_rfl) (by kernel_rfl) (by kernel_rfl)
      (OpenSpec.preRow_of_cond 8 hx (by kernel_rfl) (fun k hk => by cases hk) (by kernel_rfl) (laid_met os))) ?_
  intro W base args ds gs before hval hW _ _ _ hL _ _
  exact contract H enc W base args ds gs before hval hW hL

theorem said : Rows.HashSeedsSaid :=
  OpenClaim.holds_of_cond 5 Tryd.f5 rfl rfl rfl rfl rfl rfl rfl ⟨rfl, rfl, rfl, rfl, rfl⟩ rfl rfl rfl rfl rfl (by kernel_rfl) Tryd.func5 (by kernel_rfl)
    (of_decide_eq_true (by kernel_rfl)) (by unfold Func.isWrapper; first | (rw [if_pos (by decide +kernel)]; kernel_rfl) | (rw [if_neg (by decide +kernel)]; exact ⟨rfl, rfl⟩))
    (fun os started H enc _ F => by rw [OpenClaim.pre_eq_preRow]; exact lifted os started H enc F)
theorem plain (f : FuncId) (fn : Func) (hf : Tryd.pinned.checked.prog.funcNamed Rows.hashSeedsRow.func = some f) (hfn : Tryd.pinned.checked.prog.funcs[f]? = some fn) :
    false = Tryd.pinned.checked.prog.looks [] ∧ ∀ (j : Nat) t, fn.params[j]? = some t → Tryd.pinned.checked.prog.wantsStandIn t = false := by
  obtain rfl : f = 5 := Option.some.inj ((show Tryd.prog.funcNamed Rows.hashSeedsRow.func = some 5 by kernel_rfl).symm.trans hf) |>.symm
  obtain rfl : fn = Tryd.f5 := (Option.some.inj (Tryd.func5.symm.trans hfn)).symm
  refine ⟨by kernel_rfl, fun j t ht => ?_⟩
  rw [Tryd.params5] at ht
  have hm := Array.mem_of_getElem? ht
  simp only [List.mem_toArray, List.mem_cons, List.not_mem_nil, or_false] at hm
  rcases hm with rfl | rfl | rfl
  · exact (show Tryd.prog.wantsStandIn 9 = false by kernel_rfl)
  · exact (show Tryd.prog.wantsStandIn 31 = false by kernel_rfl)
  · exact (show Tryd.prog.wantsStandIn 23 = false by kernel_rfl)
theorem card : Rows.HashSeedsCardSaid :=
  Claim7.holds_tied_plain_at .later [] _ _ _ _ said (fun _ h => by cases h) (by kernel_rfl) (fun _ h => by cases h) hashSeeds_row_tie rfl ⟨rfl, rfl⟩ (by kernel_rfl) rfl plain (by kernel_rfl)
end Go.Proofs.YtdchoaihbjmpbaaDoor.hashSeeds
namespace Go.Proofs.YtdchoaihbjmpbaaDoor
theorem hashSeeds_proved : Rows.HashSeedsCardSaid := hashSeeds.card
end Go.Proofs.YtdchoaihbjmpbaaDoor

