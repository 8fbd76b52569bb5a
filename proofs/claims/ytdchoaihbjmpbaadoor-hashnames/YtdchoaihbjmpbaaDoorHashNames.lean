/- For all seeds, books and texts the law HashNames returns true: a name's sum is that of its key, by a seed that is its book's own; of a text that goes on with one more byte the sum hangs on what was there ahead (of at most 100 bytes, else only the document's examples are asked). The card's tie: the table of steps holds what its initialiser lays. -/
import Derived.Test.YtdchoaihbjmpbaaDoorHashLive
import Derived.ShutString
namespace Go.Proofs.YtdchoaihbjmpbaaDoor.hashNames
open Go.ChangeShapes Go.WideShapes Go.ChangeAt Go.RowKit
set_option linter.unusedVariables false

theorem app_list (s : ByteArray) (u : UInt8) : (s ++ (⟨#[u]⟩ : ByteArray)).data.toList = s.data.toList ++ [u] := by simp
theorem app_size (s : ByteArray) (u : UInt8) (h : s.size ≤ 100) : (s ++ (⟨#[u]⟩ : ByteArray)).size ≤ maxLen := by
  have h2 : (⟨#[u]⟩ : ByteArray).size = 1 := rfl
  rw [ByteArray.size_append, h2]; unfold maxLen; omega
theorem on_b (s t : ByteArray) {a : Nat} (ha : U a) (h : s.size ≤ 100) (e : s.size = t.size) :
    (((sumN a s.data.toList : Nat) : Int) == ((sumN a t.data.toList : Nat) : Int)) = (((sumN a (s ++ (⟨#[120]⟩ : ByteArray)).data.toList : Nat) : Int) == ((sumN a (t ++ (⟨#[120]⟩ : ByteArray)).data.toList : Nat) : Int)) := by
  have hl : s.data.toList.length = s.size := by simp
  have hm : t.data.toList.length = t.size := by simp
  refine eqb ?_
  rw [app_list, app_list, sum_on ha (l := s.data.toList) (m := t.data.toList) (by unfold U; omega) (by omega) 120]
  omega
theorem sum_own {x a : Nat} {y : Int} {s : ByteArray} (e : sumN x s.data.toList = nameN a y s.data.toList) (w : World) (hs : s.size ≤ maxLen) (hn : U x) (ht : TabW w) :
    Calls Tryd.prog 10 #[.int .u64 x, .string s] w fun e w' => e = .returned (.int .u64 (nameN a y s.data.toList : Nat)) ∧ Drew w w' := by
  rw [← e]; exact Sum_any x s w hs hn ht

set_option maxRecDepth 100000 in
set_option maxHeartbeats 1000000 in
theorem walk (x y0 y1 : Int) (s t : ByteArray) (wx : (Lit.int .u64 x).wf = true) (w2 : (Lit.int .i64 y0).wf = true) (w3 : (Lit.int .i64 y1).wf = true) (hs : s.size ≤ maxLen) (hst : t.size ≤ maxLen) (W : World) (ht : TabW W) :
    Calls Tryd.prog 8 #[.int .u64 x, .agg ([y0, y1].map (Value.int .i64)).toArray, .agg ([s, t].map Value.string).toArray] W fun e w' => e = .returned (.bool true) ∧ Below W.heap.size W w' := by
  obtain ⟨a, rfl, ha⟩ := wf_u wx
  show Calls Tryd.prog 8 #[.int .u64 a, .agg #[.int .i64 y0, .int .i64 y1], .agg #[.string s, .string t]] W fun e w' => e = .returned (.bool true) ∧ Below W.heap.size W w'
  have B0 : Hid (Below W.heap.size W ((W.alloc (.cells #[.int .i64 y0, .int .i64 y1] 23)).alloc (.cells #[.string s, .string t] 38))) := ((Below.refl _ _).alloc (Nat.le_refl _) _).alloc (by simp) _
  have HT := Lib.hid (ht.below B0.out)
  have HA := Lib.hid ha
  clear ht wx w2 w3
  by_cases h100 : s.size ≤ 100 ∧ t.size ≤ 100
  · obtain ⟨h1, h2⟩ := h100
    have HX := Lib.hid (show U (mixN (a ^^^ unS y0)) from mixN_u (xor_u ha (unS_u y0)))
    have HN := Lib.hid (show sumN (mixN (a ^^^ unS y0)) s.data.toList = nameN a y0 s.data.toList by unfold nameN; exact Eq.refl _)
    by_cases hl : s.size = t.size
    · have HS := Lib.hid (on_b s t ha h1 hl)
      have Z1 := Lib.hid (app_size s 120 h1)
      have Z2 := Lib.hid (app_size t 120 h2)
      have t0 : ((s.size : Int) != (t.size : Int)) = false := by simp [hl]
      have t0' : (s.size != t.size) = false := by simp [hl]
      clear ha hl
      go_enter Tryd.func8, Tryd.ntmps8
      go_wp2_with fail
      refine (Mix_go _ _ _ (book_int y0 HA.out) (xor_u HA.out (unS_u y0)) HT.out).mono ?_
      rintro e w1 ⟨rfl, hd⟩
      have c0 : w1.cell? ⟨W.heap.size, 0, none⟩ = some (.int .i64 y0) := (hd.below.cell (p := ⟨W.heap.size, 0, none⟩) (by simp; omega)).trans (by simp)
      have c1 : w1.cell? ⟨W.heap.size + 1, 0, none⟩ = some (.string s) := (hd.below.cell (p := ⟨W.heap.size + 1, 0, none⟩) (by simp)).trans (by simp)
      have c2 : w1.cell? ⟨W.heap.size + 1, 1, none⟩ = some (.string t) := (hd.below.cell (p := ⟨W.heap.size + 1, 1, none⟩) (by simp)).trans (by simp)
      have HT2 := Lib.hid (hd.tab HT.out)
      have B2 : Hid (Below W.heap.size W w1) := B0.out.trans (hd.below.mono B0.out.size)
      clear hd
      go_wp2_with fail
      go_quiet ((first | (go_at_call 12; exact Calls.quiet_of (Name_any a y0 s _ hs HA.out (by exact HT2.out.drewN _))) | (go_at_call 10; exact Calls.quiet_of (sum_own HN.out _ hs HX.out (by exact HT2.out.drewN _)))))
      go_wp2_with fail
      refine (Sum_go _ a s _ rfl hs HA.out (by exact HT2.out.drewN _)).mono ?_
      rintro e w2 ⟨rfl, hd⟩
      obtain ⟨m2, rfl⟩ := hd
      go_wp2_with fail
      refine (Sum_go _ a t _ rfl hst HA.out (by exact HT2.out.drewN _)).mono ?_
      rintro e w2 ⟨rfl, hd⟩
      obtain ⟨m3, rfl⟩ := hd
      go_wp2_with fail
      refine (Sum_go _ a _ _ rfl Z1.out HA.out (by exact HT2.out.drewN _)).mono ?_
      rintro e w2 ⟨rfl, hd⟩
      generalize sumN a (s ++ (⟨#[120]⟩ : ByteArray)).data.toList = r at *
      obtain ⟨m4, rfl⟩ := hd
      go_wp2_with fail
      refine (Sum_go _ a _ _ rfl Z2.out HA.out (by exact HT2.out.drewN _)).mono ?_
      rintro e w2 ⟨rfl, hd⟩
      generalize sumN a (t ++ (⟨#[120]⟩ : ByteArray)).data.toList = z at *
      obtain ⟨m5, rfl⟩ := hd
      have T := HS.out
      generalize sumN a s.data.toList = p at *
      generalize sumN a t.data.toList = q at *
      go_wp2_with fail
      refine (live_any _ (by exact HT2.out.drewN _)).mono ?_
      rintro e w2 ⟨rfl, hd⟩
      obtain ⟨m6, rfl⟩ := hd
      go_wp2
      go_ret
      exact ⟨rfl, below_drewN B2.out _⟩
    · have t0 : ((s.size : Int) != (t.size : Int)) = true := by simp; omega
      have t0' : (s.size != t.size) = true := by simp [hl]
      clear ha hl
      go_enter Tryd.func8, Tryd.ntmps8
      go_wp2_with fail
      refine (Mix_go _ _ _ (book_int y0 HA.out) (xor_u HA.out (unS_u y0)) HT.out).mono ?_
      rintro e w1 ⟨rfl, hd⟩
      have c0 : w1.cell? ⟨W.heap.size, 0, none⟩ = some (.int .i64 y0) := (hd.below.cell (p := ⟨W.heap.size, 0, none⟩) (by simp; omega)).trans (by simp)
      have c1 : w1.cell? ⟨W.heap.size + 1, 0, none⟩ = some (.string s) := (hd.below.cell (p := ⟨W.heap.size + 1, 0, none⟩) (by simp)).trans (by simp)
      have c2 : w1.cell? ⟨W.heap.size + 1, 1, none⟩ = some (.string t) := (hd.below.cell (p := ⟨W.heap.size + 1, 1, none⟩) (by simp)).trans (by simp)
      have HT2 := Lib.hid (hd.tab HT.out)
      have B2 : Hid (Below W.heap.size W w1) := B0.out.trans (hd.below.mono B0.out.size)
      clear hd
      go_wp2_with fail
      go_quiet ((first | (go_at_call 12; exact Calls.quiet_of (Name_any a y0 s _ hs HA.out (by exact HT2.out.drewN _))) | (go_at_call 10; exact Calls.quiet_of (sum_own HN.out _ hs HX.out (by exact HT2.out.drewN _)))))
      go_wp2_with fail
      refine (live_any _ (by exact HT2.out.drewN _)).mono ?_
      rintro e w2 ⟨rfl, hd⟩
      obtain ⟨m6, rfl⟩ := hd
      go_wp2
      go_ret
      exact ⟨rfl, below_drewN B2.out _⟩
  · clear ha
    by_cases h1 : 100 < s.size
    · clear h100
      go_enter Tryd.func8, Tryd.ntmps8
      go_wp2_with fail
      refine (live_any _ HT.out).mono ?_
      rintro e w1 ⟨rfl, hd⟩
      have D1 := Lib.hid hd
      clear hd
      go_wp2
      go_ret
      exact ⟨rfl, B0.out.trans (D1.out.below.mono B0.out.size)⟩
    · have h2 : 100 < t.size := by omega
      clear h100
      go_enter Tryd.func8, Tryd.ntmps8
      go_wp2_with fail
      refine (live_any _ HT.out).mono ?_
      rintro e w1 ⟨rfl, hd⟩
      have D1 := Lib.hid hd
      clear hd
      go_wp2
      go_ret
      exact ⟨rfl, B0.out.trans (D1.out.below.mono B0.out.size)⟩

theorem own : ownKnob Tryd.prog.godebug = none := by kernel_rfl
theorem laidOut : laidOutB Tryd.prog = true := by kernel_rfl
theorem contract (H : Type) (enc : TypeId × Value → H) (W : World) (base : Nat) (args : Array Value) (ds gs : List (DataW H)) (before : List MemPlace)
    (hval : ∀ (j : Nat) t v, Tryd.f8.params[j]? = some t → args[j]? = some v → Value.okWide Tryd.prog W .any base t v)
    (hW : DataW.Whole enc Tryd.prog Tryd.f8.params.toList Rows.hashNamesSpec.vars false W args.toList ds gs before) (hL : laidMetH Tryd.prog Rows.hashNamesRow.laid W) :
    Calls Tryd.prog 8 args W fun e W' => ∃ v, e = .returned v ∧ Rows.hashNamesSpec.post enc Tryd.prog Tryd.f8 false true false false W args v W' := by
  have hW' := hW
  obtain ⟨p, q, hA0, hV, rfl, hfz, hnd⟩ := hW
  have hA : DataW.TrodAll enc Tryd.prog W 0 (fun _ => true) true Tryd.f8.params.toList args.toList ds p := hA0
  rw [Tryd.params8] at hA hval
  obtain ⟨v0, vs0, d0, ds0, p0, q0, hargs, rfl, rfl, h0, r0⟩ := trodAll_cons hA
  obtain ⟨v1, vs1, d1, ds1, p1, q1, rfl, rfl, rfl, h1, r1⟩ := trodAll_cons r0
  obtain ⟨v2, vs2, d2, ds2, p2, q2, rfl, rfl, rfl, h2, r2⟩ := trodAll_cons r1
  obtain ⟨rfl, rfl, rfl⟩ := trodAll_nil r2
  obtain rfl : args = #[v0, v1, v2] := by cases args; simp_all
  obtain ⟨rfl, rfl⟩ := trodVars_none hV
  obtain ⟨a0, rfl, rfl, rfl, w0⟩ := open_int Tryd.underlying22 (hval 0 22 v0 rfl rfl) h0
  have k1 := h1
  have lt1 : ∀ x ∈ p1, x.block < W.heap.size := by obtain ⟨m, hm⟩ := k1; exact DataW.trod_lt m _ _ _ hm
  obtain ⟨l1, rfl, hl1, wl1⟩ := open_arr_int Tryd.underlying23 Tryd.underlying3 (by kernel_rfl) (by kernel_rfl) (hval 1 23 v1 rfl rfl) h1
  obtain ⟨x1_0, x1_1, rfl⟩ : ∃ x1_0 x1_1, l1 = [x1_0, x1_1] := by
    match l1, hl1 with
    | [x1_0, x1_1], _ => exact ⟨x1_0, x1_1, rfl⟩
  have k2 := h2
  have lt2 : ∀ x ∈ p2, x.block < W.heap.size := by obtain ⟨m, hm⟩ := k2; exact DataW.trod_lt m _ _ _ hm
  obtain ⟨l2, rfl, hl2, wl2⟩ := open_arr_str Tryd.underlying38 Tryd.underlying9 (by kernel_rfl) (by kernel_rfl) (hval 2 38 v2 rfl rfl) h2
  obtain ⟨x2_0, x2_1, rfl⟩ : ∃ x2_0 x2_1, l2 = [x2_0, x2_1] := by
    match l2, hl2 with
    | [x2_0, x2_1], _ => exact ⟨x2_0, x2_1, rfl⟩
  clear hA0
  refine (walk a0 x1_0 x1_1 x2_0 x2_1 w0 (wl1 x1_0 (by simp)) (wl1 x1_1 (by simp)) (wl2 x2_0 (by simp)) (wl2 x2_1 (by simp)) W (tabW_of hL)).mono fun e W' ⟨he, bel⟩ => ?_
  subst he
  exact ⟨_, rfl, _, _, _, [], _, [], hW', trodAll_mk1 (shut_bool Tryd.underlying4 _), (trodAll_cons_mk (shut_int Tryd.underlying22 w0) (trodAll_cons_mk (Below.trod laidOut (by kernel_rfl) (of_decide_eq_true (by kernel_rfl)) k1 bel lt1) (trodAll_cons_mk (Below.trod laidOut (by kernel_rfl) (of_decide_eq_true (by kernel_rfl)) k2 bel lt2) trodAll_mk0))), rfl, bel.frame _, fun h => by cases h⟩

theorem laid_met (os : Os) : laidMet Tryd.prog Rows.hashNamesRow.laid ((laidWorld os).forCall (fun _ _ => 0) ⟨#[], #[.int .u64 0, .agg #[.int .i64 0, .int .i64 0], .agg #[.string .empty, .string .empty]], []⟩).memory :=
  laidMet_of_run' 8 (by kernel_rfl) (by kernel_rfl)
theorem reads (os : Os) {H : Type} (enc : TypeId × Value → H) : ∃ places, DataW.whole enc Tryd.prog ((laidWorld os).forCall (fun _ _ => 0) ⟨#[], #[.int .u64 0, .agg #[.int .i64 0, .int .i64 0], .agg #[.string .empty, .string .empty]], []⟩).memory Tryd.f8.params.toList Rows.hashNamesSpec.vars false (#[.int .u64 0, .agg #[.int .i64 0, .int .i64 0], .agg #[.string .empty, .string .empty]] : Array Value).toList 8 = some ([.lit (.int .u64 0), .agg [.lit (.int .i64 0), .lit (.int .i64 0)], .agg [.lit (.string []), .lit (.string [])]], [], places) :=
  ⟨[], by kernel_rfl⟩

set_option maxRecDepth 100000 in
theorem lifted (os : Os) (started : os.Started) (H : Type) (enc : TypeId × Value → H) (F : Stop.Interp) :
    ReturnsInHanded {} Tryd.checked os 8 .any ((OpenSpec.ofChange Rows.hashNamesSpec).preRow enc Tryd.prog Tryd.f8 Rows.hashNamesRow.domain false Rows.hashNamesRow.laid) (((OpenSpec.ofChange Rows.hashNamesSpec).at F).post enc Tryd.prog Tryd.f8 false true false false) := by
  obtain ⟨places, hx⟩ := reads os enc
  refine returnsInHanded_of_row (C := Tryd.checked) (s := OpenSpec.ofChange Rows.hashNamesSpec) own started (by kernel_rfl) Tryd.func8
    (witness_row_at (enc := enc) (C := Tryd.checked) false (laidWorld os) #[.int .u64 0, .agg #[.int .i64 0, .int .i64 0], .agg #[.string .empty, .string .empty]] rfl (by kernel_rfl) (by kernel_rfl) (by kernel_rfl)
      (OpenSpec.preRow_of_cond 8 hx (by kernel_rfl) (fun k hk => by cases hk) (by kernel_rfl) (laid_met os))) ?_
  intro W base args ds gs before hval hW _ _ _ hL _ _
  exact contract H enc W base args ds gs before hval hW hL

theorem said : Rows.HashNamesSaid :=
  OpenClaim.holds_of_cond 8 Tryd.f8 rfl rfl rfl rfl rfl rfl rfl ⟨rfl, rfl, rfl, rfl, rfl⟩ rfl rfl rfl rfl rfl (by kernel_rfl) Tryd.func8 (by kernel_rfl)
    (of_decide_eq_true (by kernel_rfl)) (by unfold Func.isWrapper; first | (rw [if_pos (by decide +kernel)]; kernel_rfl) | (rw [if_neg (by decide +kernel)]; exact ⟨rfl, rfl⟩))
    (fun os started H enc _ F => by rw [OpenClaim.pre_eq_preRow]; exact lifted os started H enc F)
theorem plain (f : FuncId) (fn : Func) (hf : Tryd.pinned.checked.prog.funcNamed Rows.hashNamesRow.func = some f) (hfn : Tryd.pinned.checked.prog.funcs[f]? = some fn) :
    false = Tryd.pinned.checked.prog.looks [] ∧ ∀ (j : Nat) t, fn.params[j]? = some t → Tryd.pinned.checked.prog.wantsStandIn t = false := by
  obtain rfl : f = 8 := Option.some.inj ((show Tryd.prog.funcNamed Rows.hashNamesRow.func = some 8 by kernel_rfl).symm.trans hf) |>.symm
  obtain rfl : fn = Tryd.f8 := (Option.some.inj (Tryd.func8.symm.trans hfn)).symm
  refine ⟨by kernel_rfl, fun j t ht => ?_⟩
  rw [Tryd.params8] at ht
  have hm := Array.mem_of_getElem? ht
  simp only [List.mem_toArray, List.mem_cons, List.not_mem_nil, or_false] at hm
  rcases hm with rfl | rfl | rfl
  · exact (show Tryd.prog.wantsStandIn 22 = false by kernel_rfl)
  · exact (show Tryd.prog.wantsStandIn 23 = false by kernel_rfl)
  · exact (show Tryd.prog.wantsStandIn 38 = false by kernel_rfl)
theorem card : Rows.HashNamesCardSaid :=
  Claim7.holds_tied_plain_at .later [] _ _ _ _ said (fun _ h => by cases h) (by kernel_rfl) (fun _ h => by cases h) hashNames_row_tie rfl ⟨rfl, rfl⟩ (by kernel_rfl) rfl plain (by kernel_rfl)
end Go.Proofs.YtdchoaihbjmpbaaDoor.hashNames
namespace Go.Proofs.YtdchoaihbjmpbaaDoor
theorem hashNames_proved : Rows.HashNamesCardSaid := hashNames.card
end Go.Proofs.YtdchoaihbjmpbaaDoor

