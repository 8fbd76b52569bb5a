/- For all numbers the law HashHomes returns true: a home is below 2 to the power of bits, and by one bit more twice as much, or one more. The card's tie: the table of steps holds what its initialiser lays. -/
import Derived.Test.YtdchoaihbjmpbaaDoorHashLive
namespace Go.Proofs.YtdchoaihbjmpbaaDoor.hashHomes
open Go.ChangeShapes Go.WideShapes Go.ChangeAt Go.RowKit
set_option linter.unusedVariables false

set_option maxRecDepth 100000 in
set_option maxHeartbeats 1000000 in
theorem walk (x b : Int) (wx : (Lit.int .u64 x).wf = true) (wb : (Lit.int .i64 b).wf = true) (W : World) (ht : TabW W) :
    Calls Tryd.prog 7 #[.int .u64 x, .int .i64 b] W fun e w' => e = .returned (.bool true) ∧ Below W.heap.size W w' := by
  obtain ⟨n, rfl, hn⟩ := wf_u wx
  have HT := Lib.hid ht
  have HN := Lib.hid hn
  clear ht wx wb
  by_cases hb : 1 ≤ b ∧ b ≤ 61
  · obtain ⟨hb1, hb2⟩ := hb
    obtain ⟨k, rfl⟩ := Int.eq_ofNat_of_zero_le (show 0 ≤ b by omega)
    have E1 := Lib.hid (homeI_in n k (by omega) (by omega))
    have E2 := Lib.hid (homeI_in n (k + 1) (by omega) (by omega))
    have h1 := home_lt hn (show k ≤ 64 by omega)
    have h2 := home_succ n k (by omega)
    have h3 : 2 ^ k ≤ 2 ^ 61 := Nat.pow_le_pow_right (by decide) (by omega)
    clear hn
    generalize homeN n k = p at *
    generalize homeN n (k + 1) = q at *
    have hp0 : p < 2305843009213693952 := Nat.lt_of_lt_of_le h1 h3
    have hq0 : q < 4611686018427387904 := by omega
    have HP := Lib.hid h1
    have HQ := Lib.hid h2
    have HP3 := Lib.hid h3
    clear h1 h2 h3
    go_enter Tryd.func7, Tryd.ntmps7
    go_wp2_with fail
    refine (Home_any n k _ HN.out).mono ?_
    rintro e w1 ⟨rfl, rfl⟩
    rw [E1.out]
    go_wp2_with fail
    refine (Home_any n _ _ HN.out).mono ?_
    rintro e w1 ⟨rfl, rfl⟩
    rw [show homeI n ((k : Int) + 1) = q from E2.out]
    have T1 : decide ((p : Int) < wrap64 (2 ^ k)) = true := by
      have h1 := HP.out
      have h3 := HP3.out
      rw [pow_int]
      unfold wrap64
      simp only [decide_eq_true_eq]
      have h4 : (2 : Nat) ^ 61 = 2305843009213693952 := by decide
      rw [h4] at h3
      generalize 2 ^ k = z at *
      omega
    have hq1 : q = 2 * p ∨ q = 2 * p + 1 := by have := HQ.out; omega
    rcases hq1 with rfl | rfl
    · clear HQ HP HP3 E1 E2
      go_wp2_with fail
      refine (live_any _ HT.out).mono ?_
      rintro e w1 ⟨rfl, hd⟩
      have D1 := Lib.hid hd
      clear hd
      go_wp2
      go_ret
      exact ⟨rfl, D1.out.below⟩
    · clear HQ HP HP3 E1 E2
      have T2 : ((2 * (p : Int) + 1) == 2 * (p : Int)) = false := by simp; omega
      go_wp2_with fail
      refine (live_any _ HT.out).mono ?_
      rintro e w1 ⟨rfl, hd⟩
      have D1 := Lib.hid hd
      clear hd
      go_wp2
      go_ret
      exact ⟨rfl, D1.out.below⟩
  · clear hn
    by_cases h62 : b = 62
    · subst h62
      go_enter Tryd.func7, Tryd.ntmps7
      go_wp2_with fail
      refine (live_any _ HT.out).mono ?_
      rintro e w1 ⟨rfl, hd⟩
      have D1 := Lib.hid hd
      clear hd
      go_wp2
      go_ret
      exact ⟨rfl, D1.out.below⟩
    · have E := Lib.hid (homeI_out n b (by omega))
      have t : (b == 62) = false := by simp [h62]
      by_cases h1 : b < 1
      · clear h62 hb
        go_enter Tryd.func7, Tryd.ntmps7
        go_wp2_with fail
        refine (Home_any n _ _ HN.out).mono ?_
        rintro e w1 ⟨rfl, rfl⟩
        rw [E.out]
        go_wp2_with fail
        refine (live_any _ HT.out).mono ?_
        rintro e w1 ⟨rfl, hd⟩
        have D1 := Lib.hid hd
        clear hd
        go_wp2
        go_ret
        exact ⟨rfl, D1.out.below⟩
      · have h2 : 61 < b := by omega
        clear h62 hb
        go_enter Tryd.func7, Tryd.ntmps7
        go_wp2_with fail
        refine (Home_any n _ _ HN.out).mono ?_
        rintro e w1 ⟨rfl, rfl⟩
        rw [E.out]
        go_wp2_with fail
        refine (live_any _ HT.out).mono ?_
        rintro e w1 ⟨rfl, hd⟩
        have D1 := Lib.hid hd
        clear hd
        go_wp2
        go_ret
        exact ⟨rfl, D1.out.below⟩

theorem own : ownKnob Tryd.prog.godebug = none := by kernel_rfl
theorem laidOut : laidOutB Tryd.prog = true := by kernel_rfl
theorem contract (H : Type) (enc : TypeId × Value → H) (W : World) (base : Nat) (args : Array Value) (ds gs : List (DataW H)) (before : List MemPlace)
    (hval : ∀ (j : Nat) t v, Tryd.f7.params[j]? = some t → args[j]? = some v → Value.okWide Tryd.prog W .any base t v)
    (hW : DataW.Whole enc Tryd.prog Tryd.f7.params.toList Rows.hashHomesSpec.vars false W args.toList ds gs before) (hL : laidMetH Tryd.prog Rows.hashHomesRow.laid W) :
    Calls Tryd.prog 7 args W fun e W' => ∃ v, e = .returned v ∧ Rows.hashHomesSpec.post enc Tryd.prog Tryd.f7 false true false false W args v W' := by
  have hW' := hW
  obtain ⟨p, q, hA0, hV, rfl, hfz, hnd⟩ := hW
  have hA : DataW.TrodAll enc Tryd.prog W 0 (fun _ => true) true Tryd.f7.params.toList args.toList ds p := hA0
  rw [Tryd.params7] at hA hval
  obtain ⟨v0, vs0, d0, ds0, p0, q0, hargs, rfl, rfl, h0, r0⟩ := trodAll_cons hA
  obtain ⟨v1, vs1, d1, ds1, p1, q1, rfl, rfl, rfl, h1, r1⟩ := trodAll_cons r0
  obtain ⟨rfl, rfl, rfl⟩ := trodAll_nil r1
  obtain rfl : args = #[v0, v1] := by cases args; simp_all
  obtain ⟨rfl, rfl⟩ := trodVars_none hV
  obtain ⟨a0, rfl, rfl, rfl, w0⟩ := open_int Tryd.underlying22 (hval 0 22 v0 rfl rfl) h0
  obtain ⟨a1, rfl, rfl, rfl, w1⟩ := open_int Tryd.underlying3 (hval 1 3 v1 rfl rfl) h1
  clear hA0
  refine (walk a0 a1 w0 w1 W (tabW_of hL)).mono fun e W' ⟨he, bel⟩ => ?_
  subst he
  exact ⟨_, rfl, _, _, _, [], _, [], hW', trodAll_mk1 (shut_bool Tryd.underlying4 _), (trodAll_cons_mk (shut_int Tryd.underlying22 w0) (trodAll_cons_mk (shut_int Tryd.underlying3 w1) trodAll_mk0)), rfl, bel.frame _, fun h => by cases h⟩

theorem laid_met (os : Os) : laidMet Tryd.prog Rows.hashHomesRow.laid ((laidWorld os).forCall (fun _ _ => 0) ⟨#[], #[.int .u64 0, .int .i64 0], []⟩).memory :=
  laidMet_of_run' 8 (by kernel_rfl) (by kernel_rfl)
theorem reads (os : Os) {H : Type} (enc : TypeId × Value → H) : ∃ places, DataW.whole enc Tryd.prog ((laidWorld os).forCall (fun _ _ => 0) ⟨#[], #[.int .u64 0, .int .i64 0], []⟩).memory Tryd.f7.params.toList Rows.hashHomesSpec.vars false (#[.int .u64 0, .int .i64 0] : Array Value).toList 8 = some ([.lit (.int .u64 0), .lit (.int .i64 0)], [], places) :=
  ⟨[], by kernel_rfl⟩

set_option maxRecDepth 100000 in
theorem lifted (os : Os) (started : os.Started) (H : Type) (enc : TypeId × Value → H) (F : Stop.Interp) :
    ReturnsInHanded {} Tryd.checked os 7 .any ((OpenSpec.ofChange Rows.hashHomesSpec).preRow enc Tryd.prog Tryd.f7 Rows.hashHomesRow.domain false Rows.hashHomesRow.laid) (((OpenSpec.ofChange Rows.hashHomesSpec).at F).post enc Tryd.prog Tryd.f7 false true false false) := by
  obtain ⟨places, hx⟩ := reads os enc
  refine returnsInHanded_of_row (C := Tryd.checked) (s := OpenSpec.ofChange Rows.hashHomesSpec) own started (by kernel_rfl) Tryd.func7
    (witness_row_at (enc := enc) (C := Tryd.checked) false (laidWorld os) #[.int .u64 0, .int .i64 0] rfl (by kernel_rfl) (by kernel_rfl) (by kernel_rfl)
      (OpenSpec.preRow_of_cond 8 hx (by kernel_rfl) (fun k hk => by cases hk) (by kernel_rfl) (laid_met os))) ?_
  intro W base args ds gs before hval hW _ _ _ hL _ _
  exact contract H enc W base args ds gs before hval hW hL

theorem said : Rows.HashHomesSaid :=
  OpenClaim.holds_of_cond 7 Tryd.f7 rfl rfl rfl rfl rfl rfl rfl ⟨rfl, rfl, rfl, rfl, rfl⟩ rfl rfl rfl rfl rfl (by kernel_rfl) Tryd.func7 (by kernel_rfl)
    (of_decide_eq_true (by kernel_rfl)) (by unfold Func.isWrapper; first | (rw [if_pos (by decide +kernel)]; kernel_rfl) | (rw [if_neg (by decide +kernel)]; exact ⟨rfl, rfl⟩))
    (fun os started H enc _ F => by rw [OpenClaim.pre_eq_preRow]; exact lifted os started H enc F)
theorem plain (f : FuncId) (fn : Func) (hf : Tryd.pinned.checked.prog.funcNamed Rows.hashHomesRow.func = some f) (hfn : Tryd.pinned.checked.prog.funcs[f]? = some fn) :
    false = Tryd.pinned.checked.prog.looks [] ∧ ∀ (j : Nat) t, fn.params[j]? = some t → Tryd.pinned.checked.prog.wantsStandIn t = false := by
  obtain rfl : f = 7 := Option.some.inj ((show Tryd.prog.funcNamed Rows.hashHomesRow.func = some 7 by kernel_rfl).symm.trans hf) |>.symm
  obtain rfl : fn = Tryd.f7 := (Option.some.inj (Tryd.func7.symm.trans hfn)).symm
  refine ⟨by kernel_rfl, fun j t ht => ?_⟩
  rw [Tryd.params7] at ht
  have hm := Array.mem_of_getElem? ht
  simp only [List.mem_toArray, List.mem_cons, List.not_mem_nil, or_false] at hm
  rcases hm with rfl | rfl
  · exact (show Tryd.prog.wantsStandIn 22 = false by kernel_rfl)
  · exact (show Tryd.prog.wantsStandIn 3 = false by kernel_rfl)
theorem card : Rows.HashHomesCardSaid :=
  Claim7.holds_tied_plain_at .later [] _ _ _ _ said (fun _ h => by cases h) (by kernel_rfl) (fun _ h => by cases h) hashHomes_row_tie rfl ⟨rfl, rfl⟩ (by kernel_rfl) rfl plain (by kernel_rfl)
end Go.Proofs.YtdchoaihbjmpbaaDoor.hashHomes
namespace Go.Proofs.YtdchoaihbjmpbaaDoor
theorem hashHomes_proved : Rows.HashHomesCardSaid := hashHomes.card
end Go.Proofs.YtdchoaihbjmpbaaDoor

