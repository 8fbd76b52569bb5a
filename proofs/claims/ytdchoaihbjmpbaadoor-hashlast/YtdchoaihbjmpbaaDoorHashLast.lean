/- For all seeds and texts the law HashLast returns true: of two texts of one length that differ in the last byte alone the sums are unlike (of at most 100 bytes, else only the document's examples are asked). The card's tie: the table of steps holds what its initialiser lays. -/
import Derived.Test.YtdchoaihbjmpbaaDoorHashLive
import Derived.ShutString
import Derived.Laws.IdiomStrings
namespace Go.Proofs.YtdchoaihbjmpbaaDoor.hashLast
open Go.ChangeShapes Go.WideShapes Go.ChangeAt Go.RowKit
open Go.ChangeMaps (open_string shut_string)
set_option linter.unusedVariables false

theorem byte_back (w : World) (g cap : Nat) (u : UInt8) (h : w.cell? ⟨g, 0, none⟩ = some (.int .u8 (u.toNat : Nat))) :
    (convert 34 9 (.slice (some ⟨g, 0, none⟩) 1 cap)).run Tryd.prog w = .ok (.string ⟨[u].toArray⟩) w :=
  run_convert_bytes_back (P := Tryd.prog) w 34 9 5 ⟨g, 0, none⟩ cap [u] Tryd.underlying34 Tryd.underlying5 Tryd.underlying9 (by
    intro j hj
    have hj0 : j = 0 := by simp at hj; exact hj
    subst hj0
    have e : (⟨g, 0, none⟩ : Addr).add 0 = ⟨g, 0, none⟩ := by unfold Addr.add; split <;> simp_all
    rw [e]; exact h)
theorem app_list (s : ByteArray) (u : UInt8) : (s ++ (⟨#[u]⟩ : ByteArray)).data.toList = s.data.toList ++ [u] := by simp
theorem app_size (s : ByteArray) (u : UInt8) (h : s.size ≤ 100) : (s ++ (⟨#[u]⟩ : ByteArray)).size ≤ maxLen := by
  have h2 : (⟨#[u]⟩ : ByteArray).size = 1 := rfl
  rw [ByteArray.size_append, h2]; unfold maxLen; omega
theorem last_b (s : ByteArray) (u v : UInt8) {a : Nat} (ha : U a) (h : s.size ≤ 100) :
    (((sumN a (s ++ (⟨#[u]⟩ : ByteArray)).data.toList : Nat) : Int) == ((sumN a (s ++ (⟨#[v]⟩ : ByteArray)).data.toList : Nat) : Int)) = (((u.toNat : Nat) : Int) == ((v.toNat : Nat) : Int)) := by
  have hl : s.data.toList.length = s.size := by simp
  refine eqb ?_
  rw [app_list, app_list, sum_last ha (by unfold U; omega), ← UInt8.toNat_inj]
  omega
theorem cell_push (w : World) (o : Obj) {b i : Nat} (h : b < w.heap.size) : (w.alloc o).cell? ⟨b, i, none⟩ = w.cell? ⟨b, i, none⟩ :=
  ((Below.refl _ w).alloc (Nat.le_refl _) o).cell (p := ⟨b, i, none⟩) h
theorem wf_b {n : Int} (h : (Lit.int .u8 n).wf = true) : ∃ u : UInt8, n = (u.toNat : Nat) := by
  have hx : 0 ≤ n ∧ n ≤ 255 := by simpa [Lit.wf, IntKind.min, IntKind.max, IntKind.signed, IntKind.bits] using h
  exact ⟨UInt8.ofNat n.toNat, by simp; omega⟩

set_option maxRecDepth 100000 in
set_option maxHeartbeats 1000000 in
theorem walk (x : Int) (s : ByteArray) (y0 y1 : Int) (wx : (Lit.int .u64 x).wf = true) (hs : s.size ≤ maxLen) (w2 : (Lit.int .u8 y0).wf = true) (w3 : (Lit.int .u8 y1).wf = true) (W : World) (ht : TabW W) :
    Calls Tryd.prog 6 #[.int .u64 x, .string s, .agg ([y0, y1].map (Value.int .u8)).toArray] W fun e w' => e = .returned (.bool true) ∧ Below W.heap.size W w' := by
  obtain ⟨a, rfl, ha⟩ := wf_u wx
  show Calls Tryd.prog 6 #[.int .u64 a, .string s, .agg #[.int .u8 y0, .int .u8 y1]] W fun e w' => e = .returned (.bool true) ∧ Below W.heap.size W w'
  have B0 : Hid (Below W.heap.size W (W.alloc (.cells #[.int .u8 y0, .int .u8 y1] 33))) := (Below.refl _ _).alloc (Nat.le_refl _) _
  have HT := Lib.hid (ht.below B0.out)
  have HA := Lib.hid ha
  clear ht wx
  by_cases h100 : 100 < s.size
  · go_enter Tryd.func6, Tryd.ntmps6
    go_wp2_with fail
    refine (live_any _ HT.out).mono ?_
    rintro e w1 ⟨rfl, hd⟩
    have D1 := Lib.hid hd
    clear hd
    go_wp2
    go_ret
    exact ⟨rfl, B0.out.trans (D1.out.below.mono B0.out.size)⟩
  · obtain ⟨u, rfl⟩ := wf_b w2
    obtain ⟨v, rfl⟩ := wf_b w3
    have R0 := byte_back ((W.alloc (.cells #[.int .u8 (u.toNat : Nat), .int .u8 (v.toNat : Nat)] 33)).alloc (.cells #[.int .u8 (u.toNat : Nat)] 5)) (W.heap.size + 1) 1 u (by simp)
    have B1 : Hid (Below W.heap.size W ((W.alloc (.cells #[.int .u8 (u.toNat : Nat), .int .u8 (v.toNat : Nat)] 33)).alloc (.cells #[.int .u8 (u.toNat : Nat)] 5))) := B0.out.alloc (by simp) _
    have HT1 := Lib.hid (HT.out.below ((Below.refl _ _).alloc (Nat.le_refl _) (.cells #[.int .u8 (u.toNat : Nat)] 5)))
    have Z1 := Lib.hid (app_size s u (by omega))
    have Z2 := Lib.hid (app_size s v (by omega))
    have HS := Lib.hid (last_b s u v ha (by omega))
    clear ha
    go_enter Tryd.func6, Tryd.ntmps6
    go_wp2_with fail
    refine (Sum_go _ a _ _ rfl Z1.out HA.out HT1.out).mono ?_
    rintro e w1 ⟨rfl, hd⟩
    generalize sumN a (s ++ (⟨#[u]⟩ : ByteArray)).data.toList = p at *
    have c0 : w1.cell? ⟨W.heap.size, 0, none⟩ = some (.int .u8 (u.toNat : Nat)) := (hd.below.cell (p := ⟨W.heap.size, 0, none⟩) (by simp; omega)).trans (by simp)
    have c1 : w1.cell? ⟨W.heap.size, 1, none⟩ = some (.int .u8 (v.toNat : Nat)) := (hd.below.cell (p := ⟨W.heap.size, 1, none⟩) (by simp; omega)).trans (by simp)
    have HT2 := Lib.hid (hd.tab HT1.out)
    have B2 : Hid (Below W.heap.size W w1) := B1.out.trans (hd.below.mono B1.out.size)
    have HLT : W.heap.size < w1.heap.size := by have := hd.below.size; simp at this; omega
    clear hd R0
    have R1 := byte_back (w1.alloc (.cells #[.int .u8 (v.toNat : Nat)] 5)) w1.heap.size 1 v (by simp)
    have HT3 := Lib.hid (HT2.out.below ((Below.refl _ _).alloc (Nat.le_refl _) (.cells #[.int .u8 (v.toNat : Nat)] 5)))
    have B3 : Hid (Below W.heap.size W (w1.alloc (.cells #[.int .u8 (v.toNat : Nat)] 5))) := B2.out.alloc (Nat.le_of_lt HLT) _
    go_wp2_with fail
    refine (Sum_go _ a _ _ rfl Z2.out HA.out HT3.out).mono ?_
    rintro e w2 ⟨rfl, hd⟩
    generalize sumN a (s ++ (⟨#[v]⟩ : ByteArray)).data.toList = q at *
    have d0 : w2.cell? ⟨W.heap.size, 0, none⟩ = some (.int .u8 (u.toNat : Nat)) := (hd.below.cell (p := ⟨W.heap.size, 0, none⟩) (by simp; omega)).trans (by rw [cell_push _ _ HLT]; exact c0)
    have d1 : w2.cell? ⟨W.heap.size, 1, none⟩ = some (.int .u8 (v.toNat : Nat)) := (hd.below.cell (p := ⟨W.heap.size, 1, none⟩) (by simp; omega)).trans (by rw [cell_push _ _ HLT]; exact c1)
    have HT4 := Lib.hid (hd.tab HT3.out)
    have B4 : Hid (Below W.heap.size W w2) := B3.out.trans (hd.below.mono B3.out.size)
    clear hd R1 c0 c1
    have T := HS.out
    go_wp2_with fail
    refine (live_any _ HT4.out).mono ?_
    rintro e w3 ⟨rfl, hd⟩
    have D := Lib.hid hd
    clear hd
    go_wp2
    go_ret
    exact ⟨rfl, B4.out.trans (D.out.below.mono B4.out.size)⟩

theorem own : ownKnob Tryd.prog.godebug = none := by kernel_rfl
theorem laidOut : laidOutB Tryd.prog = true := by kernel_rfl
theorem contract (H : Type) (enc : TypeId × Value → H) (W : World) (base : Nat) (args : Array Value) (ds gs : List (DataW H)) (before : List MemPlace)
    (hval : ∀ (j : Nat) t v, Tryd.f6.params[j]? = some t → args[j]? = some v → Value.okWide Tryd.prog W .any base t v)
    (hW : DataW.Whole enc Tryd.prog Tryd.f6.params.toList Rows.hashLastSpec.vars false W args.toList ds gs before) (hL : laidMetH Tryd.prog Rows.hashLastRow.laid W) :
    Calls Tryd.prog 6 args W fun e W' => ∃ v, e = .returned v ∧ Rows.hashLastSpec.post enc Tryd.prog Tryd.f6 false true false false W args v W' := by
  have hW' := hW
  obtain ⟨p, q, hA0, hV, rfl, hfz, hnd⟩ := hW
  have hA : DataW.TrodAll enc Tryd.prog W 0 (fun _ => true) true Tryd.f6.params.toList args.toList ds p := hA0
  rw [Tryd.params6] at hA hval
  obtain ⟨v0, vs0, d0, ds0, p0, q0, hargs, rfl, rfl, h0, r0⟩ := trodAll_cons hA
  obtain ⟨v1, vs1, d1, ds1, p1, q1, rfl, rfl, rfl, h1, r1⟩ := trodAll_cons r0
  obtain ⟨v2, vs2, d2, ds2, p2, q2, rfl, rfl, rfl, h2, r2⟩ := trodAll_cons r1
  obtain ⟨rfl, rfl, rfl⟩ := trodAll_nil r2
  obtain rfl : args = #[v0, v1, v2] := by cases args; simp_all
  obtain ⟨rfl, rfl⟩ := trodVars_none hV
  obtain ⟨a0, rfl, rfl, rfl, w0⟩ := open_int Tryd.underlying22 (hval 0 22 v0 rfl rfl) h0
  obtain ⟨a1, rfl, rfl, rfl, w1⟩ := open_string Tryd.underlying9 (hval 1 9 v1 rfl rfl) h1
  have k2 := h2
  have lt2 : ∀ x ∈ p2, x.block < W.heap.size := by obtain ⟨m, hm⟩ := k2; exact DataW.trod_lt m _ _ _ hm
  obtain ⟨l2, rfl, hl2, wl2⟩ := open_arr_int Tryd.underlying33 Tryd.underlying5 (by kernel_rfl) (by kernel_rfl) (hval 2 33 v2 rfl rfl) h2
  obtain ⟨x2_0, x2_1, rfl⟩ : ∃ x2_0 x2_1, l2 = [x2_0, x2_1] := by
    match l2, hl2 with
    | [x2_0, x2_1], _ => exact ⟨x2_0, x2_1, rfl⟩
  clear hA0
  refine (walk a0 a1 x2_0 x2_1 w0 w1 (wl2 x2_0 (by simp)) (wl2 x2_1 (by simp)) W (tabW_of hL)).mono fun e W' ⟨he, bel⟩ => ?_
  subst he
  exact ⟨_, rfl, _, _, _, [], _, [], hW', trodAll_mk1 (shut_bool Tryd.underlying4 _), (trodAll_cons_mk (shut_int Tryd.underlying22 w0) (trodAll_cons_mk (shut_string Tryd.underlying9 w1) (trodAll_cons_mk (Below.trod laidOut (by kernel_rfl) (of_decide_eq_true (by kernel_rfl)) k2 bel lt2) trodAll_mk0))), rfl, bel.frame _, fun h => by cases h⟩

theorem laid_met (os : Os) : laidMet Tryd.prog Rows.hashLastRow.laid ((laidWorld os).forCall (fun _ _ => 0) ⟨#[], #[.int .u64 0, .string .empty, .agg #[.int .u8 0, .int .u8 0]], []⟩).memory :=
  laidMet_of_run' 8 (by kernel_rfl) (by kernel_rfl)
theorem reads (os : Os) {H : Type} (enc : TypeId × Value → H) : ∃ places, DataW.whole enc Tryd.prog ((laidWorld os).forCall (fun _ _ => 0) ⟨#[], #[.int .u64 0, .string .empty, .agg #[.int .u8 0, .int .u8 0]], []⟩).memory Tryd.f6.params.toList Rows.hashLastSpec.vars false (#[.int .u64 0, .string .empty, .agg #[.int .u8 0, .int .u8 0]] : Array Value).toList 8 = some ([.lit (.int .u64 0), .lit (.string []), .agg [.lit (.int .u8 0), .lit (.int .u8 0)]], [], places) :=
  ⟨[], by kernel_rfl⟩

set_option maxRecDepth 100000 in
theorem lifted (os : Os) (started : os.Started) (H : Type) (enc : TypeId × Value → H) (F : Stop.Interp) :
    ReturnsInHanded {} Tryd.checked os 6 .any ((OpenSpec.ofChange Rows.hashLastSpec).preRow enc Tryd.prog Tryd.f6 Rows.hashLastRow.domain false Rows.hashLastRow.laid) (((OpenSpec.ofChange Rows.hashLastSpec).at F).post enc Tryd.prog Tryd.f6 false true false false) := by
  obtain ⟨places, hx⟩ := reads os enc
  refine returnsInHanded_of_row (C := Tryd.checked) (s := OpenSpec.ofChange Rows.hashLastSpec) own started (by kernel_rfl) Tryd.func6
    (witness_row_at (enc := enc) (C := Tryd.checked) false (laidWorld os) #[.int .u64 0, .string .empty, .agg #[.int .u8 0, .int .u8 0]] rfl (by kernel_rfl) (by kernel_rfl) (by kernel_rfl)
      (OpenSpec.preRow_of_cond 8 hx (by kernel_rfl) (fun k hk => by cases hk) (by kernel_rfl) (laid_met os))) ?_
  intro W base args ds gs before hval hW _ _ _ hL _ _
  exact contract H enc W base args ds gs before hval hW hL

theorem said : Rows.HashLastSaid :=
  OpenClaim.holds_of_cond 6 Tryd.f6 rfl rfl rfl rfl rfl rfl rfl ⟨rfl, rfl, rfl, rfl, rfl⟩ rfl rfl rfl rfl rfl (by kernel_rfl) Tryd.func6 (by kernel_rfl)
    (of_decide_eq_true (by kernel_rfl)) (by unfold Func.isWrapper; first | (rw [if_pos (by decide +kernel)]; kernel_rfl) | (rw [if_neg (by decide +kernel)]; exact ⟨rfl, rfl⟩))
    (fun os started H enc _ F => by rw [OpenClaim.pre_eq_preRow]; exact lifted os started H enc F)
theorem plain (f : FuncId) (fn : Func) (hf : Tryd.pinned.checked.prog.funcNamed Rows.hashLastRow.func = some f) (hfn : Tryd.pinned.checked.prog.funcs[f]? = some fn) :
    false = Tryd.pinned.checked.prog.looks [] ∧ ∀ (j : Nat) t, fn.params[j]? = some t → Tryd.pinned.checked.prog.wantsStandIn t = false := by
  obtain rfl : f = 6 := Option.some.inj ((show Tryd.prog.funcNamed Rows.hashLastRow.func = some 6 by kernel_rfl).symm.trans hf) |>.symm
  obtain rfl : fn = Tryd.f6 := (Option.some.inj (Tryd.func6.symm.trans hfn)).symm
  refine ⟨by kernel_rfl, fun j t ht => ?_⟩
  rw [Tryd.params6] at ht
  have hm := Array.mem_of_getElem? ht
  simp only [List.mem_toArray, List.mem_cons, List.not_mem_nil, or_false] at hm
  rcases hm with rfl | rfl | rfl
  · exact (show Tryd.prog.wantsStandIn 22 = false by kernel_rfl)
  · exact (show Tryd.prog.wantsStandIn 9 = false by kernel_rfl)
  · exact (show Tryd.prog.wantsStandIn 33 = false by kernel_rfl)
theorem card : Rows.HashLastCardSaid :=
  Claim7.holds_tied_plain_at .later [] _ _ _ _ said (fun _ h => by cases h) (by kernel_rfl) (fun _ h => by cases h) hashLast_row_tie rfl ⟨rfl, rfl⟩ (by kernel_rfl) rfl plain (by kernel_rfl)
end Go.Proofs.YtdchoaihbjmpbaaDoor.hashLast
namespace Go.Proofs.YtdchoaihbjmpbaaDoor
theorem hashLast_proved : Rows.HashLastCardSaid := hashLast.card
end Go.Proofs.YtdchoaihbjmpbaaDoor

