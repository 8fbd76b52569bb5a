/- For all lists of calls the law WheelScripts returns true: whatever is called of a new wheel, each answer, and its mask and length, is the document's own (of at most 100 calls, else only the document's examples are asked). -/
import Derived.Test.YtknehglahdkafaaDoorWdoes2
import Derived.Test.YtknehglahdkafaaDoorRows
namespace Go.Proofs.YtknehglahdkafaaDoor.wheelScripts
open Go.ChangeShapes Go.WideShapes Go.ChangeAt Go.RowKit
set_option linter.unusedVariables false

theorem start {w : World} {bP bM : Nat} (h : Wh w bP bM (fun _ => [])) : Both (w.alloc (.cells (List.replicate 64 (.slice none 0 0)).toArray 29)) bP bM w.heap.size (fun _ => []) (List.replicate 64 (.slice none 0 0)) := by
  have hlt := h.lt
  refine ⟨h.below ((Below.refl _ w).alloc (Nat.le_refl _) _), ⟨Has.made w _ _, by simp, fun s hs => ⟨none, 0, ?_, ⟨Nat.zero_le _, fun h => by simp at h⟩, fun a e => by cases e⟩, fun e => by rcases e with e | e <;> omega, by decide +kernel⟩⟩
  rw [List.getElem?_replicate, if_pos hs]; rfl
set_option maxRecDepth 100000 in
set_option maxHeartbeats 4000000 in
theorem main (A : Option Addr) (len cap : Nat) {W : World} (hops : IsOps W A len cap) (ht : TabW W) :
    Calls Tryd.prog 3 #[.slice A len cap] W fun e w' => e = .returned (.bool true) ∧ Below W.heap.size W w' := by
  have hlm : len ≤ 9223372036854775807 := by have := hops.2.1; have := hops.1; unfold maxLen at *; omega
  have hlc := hops.1
  have HOPS := Lib.hid hops
  have HT := Lib.hid ht
  clear hops ht
  go_enter Tryd.func3, Tryd.ntmps3
  go_wp2_with fail
  refine (New_T W).mono ?_
  rintro e w1 ⟨bP, bM, rfl, hW, hB, h1, h2⟩
  have HS0 := Lib.hid (start hW)
  have HB0 := Lib.hid (hB.alloc hB.size (.cells (List.replicate 64 (.slice none 0 0)).toArray 29))
  have h3 := hB.size
  have HBK := Lib.hid (fun w' w'' (h : Below W.heap.size W w') (k : Kept (tri bP bM w1.heap.size) w' w'') => h.trans (k.below (B := W.heap.size) h.size (fun i hi hf => by rcases hf with e | e | e <;> omega)))
  clear hW hB h1 h2 h3
  by_cases h100 : 100 < len
  · go_wp2_with fail
    refine (live_any _ (HT.out.below HB0.out)).mono ?_
    rintro e w6 ⟨rfl, hb⟩
    have HB8 := Lib.hid (HB0.out.trans (hb.mono HB0.out.size))
    clear hb
    go_wp2
    go_ret
    exact ⟨rfl, HB8.out⟩
  · have t100 : decide ((100 : Int) < (len : Int)) = false := by simp; omega
    go_wp2_with fail
    go_loopw [5] (fun i wr => ∃ (j : Nat) (R : Nat → List Nat) (vs : List Value), j ≤ len ∧ i = .int .i64 (j : Int) ∧ Both wr bP bM w1.heap.size R vs ∧ tot R 64 ≤ j ∧ Below W.heap.size W wr) (fun i _ => len - (intOf i).toNat)
    case atStart => exact ⟨0, _, List.replicate 64 (.slice none 0 0), Nat.zero_le _, rfl, HS0.out, by decide +kernel, HB0.out⟩
    case round =>
      clear HS0 HB0
      obtain ⟨j, R, vs, hj, rfl, hI, hn, hL⟩ := hrel
      have HI := Lib.hid hI
      have HL := Lib.hid hL
      have HN := Lib.hid hn
      clear hI hL hn
      generalize w1.heap.size = bR at *
      by_cases hlt : j < len
      · obtain ⟨b, off, rfl, hb, hall⟩ := HOPS.out.2.2 (by omega)
        obtain ⟨d, sl, k, ho⟩ := hall j hlt
        clear hall
        have c0 := (HL.out.cell (p := ⟨b, off + j * 3, none⟩) hb).trans ho.c0
        have c1 := (HL.out.cell (p := ⟨b, off + j * 3 + 1, none⟩) hb).trans ho.c1
        have c2 := (HL.out.cell (p := ⟨b, off + j * 3 + 2, none⟩) hb).trans ho.c2
        have HC := Lib.hid (does_any bP bM bR R vs wr HI.out (by have := HN.out; omega) sl k d ho.w1 ho.w2 (HT.out.below HL.out))
        clear ho
        go_wp2_with fail
        refine HC.out.mono ?_
        rintro e w2 ⟨R2, vs2, rfl, hB2, hK2, hT2⟩
        have HB2 := Lib.hid hB2
        have HL2 := Lib.hid (HBK.out _ _ HL.out hK2)
        have HT2 := Lib.hid hT2
        obtain ⟨m, hm1, hm2, hm3⟩ := Mask_T bP bM R2 w2 hB2.wh
        obtain rfl : m = mD R2 64 := mask_is hm1 (Nat.lt_of_lt_of_le (mD_lt R2 64) (by decide)) hm2 (fun i hi => by
          have := mD_bit R2 64 (Nat.le_refl _) i hi
          rwa [show 64 - 64 + i = i by omega] at this)
        have HM1 := Lib.hid hm3
        have HM2 := Lib.hid (rMask_any bR (two bP bM) R2 vs2 w2 hB2.rw_)
        have HL3 := Lib.hid (Len_T bP bM R2 w2 hB2.wh)
        have HL4 := Lib.hid (rLen_any bR (two bP bM) R2 vs2 w2 hB2.rw_)
        clear hB2 hK2 hT2 hm1 hm2 hm3 HC
        generalize mD R2 64 = M at *
        obtain ⟨T, hT⟩ : ∃ T, tot R2 64 = T := ⟨_, rfl⟩
        rw [hT] at HL3 HL4
        clear hT
        go_wp2_with fail
        refine HM1.out.mono ?_
        rintro e w3 ⟨rfl, rfl⟩
        go_wp2_with fail
        refine HM2.out.mono ?_
        rintro e w3 ⟨rfl, rfl⟩
        go_wp2_with fail
        refine HL3.out.mono ?_
        rintro e w3 ⟨rfl, rfl⟩
        go_wp2_with fail
        refine HL4.out.mono ?_
        rintro e w3 ⟨rfl, rfl⟩
        go_wp2
        go_roundw
        case rel => exact ⟨j + 1, R2, vs2, by omega, by go_num, HB2.out, by have := HT2.out; have := HN.out; omega, HL2.out⟩
        case measure => simp [intOf]; omega
      · go_wp2_with fail
        refine (live_any _ (HT.out.below HL.out)).mono ?_
        rintro e w6 ⟨rfl, hb⟩
        have HB8 := Lib.hid (HL.out.trans (hb.mono HL.out.size))
        clear hb
        go_wp2
        go_ret
        exact ⟨rfl, HB8.out⟩
theorem walk (A : Option Addr) (len cap : Nat) {W : World} (hops : IsOps W A len cap) (ht : TabW W) :
    Calls Tryd.prog 3 #[.slice A len cap] W fun e w' => e = .returned (.bool true) ∧ Below W.heap.size W w' := main A len cap hops ht

theorem own : ownKnob Tryd.prog.godebug = none := by kernel_rfl
theorem laidOut : laidOutB Tryd.prog = true := by kernel_rfl
theorem contract (H : Type) (enc : TypeId × Value → H) (W : World) (base : Nat) (args : Array Value) (ds gs : List (DataW H)) (before : List MemPlace)
    (hval : ∀ (j : Nat) t v, Tryd.f3.params[j]? = some t → args[j]? = some v → Value.okWide Tryd.prog W .any base t v)
    (hW : DataW.Whole enc Tryd.prog Tryd.f3.params.toList Rows.wheelScriptsSpec.vars false W args.toList ds gs before) (hL : laidMetH Tryd.prog Rows.wheelScriptsRow.laid W) :
    Calls Tryd.prog 3 args W fun e W' => ∃ v, e = .returned v ∧ Rows.wheelScriptsSpec.post enc Tryd.prog Tryd.f3 false true false false W args v W' := by
  have hW' := hW
  obtain ⟨p, q, hA0, hV, rfl, hfz, hnd⟩ := hW
  have hA : DataW.TrodAll enc Tryd.prog W 0 (fun _ => true) true Tryd.f3.params.toList args.toList ds p := hA0
  rw [Tryd.params3] at hA hval
  obtain ⟨v0, vs0, d0, ds0, p0, q0, hargs, rfl, rfl, h0, r0⟩ := trodAll_cons hA
  obtain ⟨rfl, rfl, rfl⟩ := trodAll_nil r0
  obtain rfl : args = #[v0] := by cases args; simp_all
  obtain ⟨rfl, rfl⟩ := trodVars_none hV
  have k0 := h0
  have lt0 : ∀ x ∈ p0, x.block < W.heap.size := by obtain ⟨m, hm⟩ := k0; exact DataW.trod_lt m _ _ _ hm
  obtain ⟨a0, len0, cap0, rfl, w0⟩ := open_ops (hval 0 22 v0 rfl rfl) h0
  clear hA0
  refine (walk a0 len0 cap0 w0 (tabW_of hL)).mono fun e W' ⟨he, bel⟩ => ?_
  subst he
  exact ⟨_, rfl, _, _, _, [], _, [], hW', trodAll_mk1 (shut_bool Tryd.underlying4 _), (trodAll_cons_mk (Below.trod laidOut (by kernel_rfl) (of_decide_eq_true (by kernel_rfl)) k0 bel lt0) trodAll_mk0), rfl, bel.frame _, fun h => by cases h⟩

theorem laid_met (os : Os) : laidMet Tryd.prog Rows.wheelScriptsRow.laid ((laidWorld os).forCall (fun _ _ => 0) ⟨#[], #[.slice none 0 0], []⟩).memory :=
  laidMet_of_run' 8 (by kernel_rfl) (by kernel_rfl)
theorem reads (os : Os) {H : Type} (enc : TypeId × Value → H) : ∃ places, DataW.whole enc Tryd.prog ((laidWorld os).forCall (fun _ _ => 0) ⟨#[], #[.slice none 0 0], []⟩).memory Tryd.f3.params.toList Rows.wheelScriptsSpec.vars false (#[.slice none 0 0] : Array Value).toList 8 = some ([.nil], [], places) :=
  ⟨[], by kernel_rfl⟩

set_option maxRecDepth 100000 in
theorem lifted (os : Os) (started : os.Started) (H : Type) (enc : TypeId × Value → H) (F : Stop.Interp) :
    ReturnsInHanded {} Tryd.checked os 3 .any ((OpenSpec.ofChange Rows.wheelScriptsSpec).preRow enc Tryd.prog Tryd.f3 Rows.wheelScriptsRow.domain false Rows.wheelScriptsRow.laid) (((OpenSpec.ofChange Rows.wheelScriptsSpec).at F).post enc Tryd.prog Tryd.f3 false true false false) := by
  obtain ⟨places, hx⟩ := reads os enc
  refine returnsInHanded_of_row (C := Tryd.checked) (s := OpenSpec.ofChange Rows.wheelScriptsSpec) own started (by kernel_rfl) Tryd.func3
    (witness_row_at (enc := enc) (C := Tryd.checked) false (laidWorld os) #[.slice none 0 0] rfl (by kernel_rfl) (by kernel_rfl) (by kernel_rfl)
      (OpenSpec.preRow_of_cond 8 hx (by kernel_rfl) (fun k hk => by cases hk) (by kernel_rfl) (laid_met os))) ?_
  intro W base args ds gs before hval hW _ _ _ hL _ _
  exact contract H enc W base args ds gs before hval hW hL

theorem said : Rows.WheelScriptsSaid :=
  OpenClaim.holds_of_cond 3 Tryd.f3 rfl rfl rfl rfl rfl rfl rfl ⟨rfl, rfl, rfl, rfl, rfl⟩ rfl rfl rfl rfl rfl (by kernel_rfl) Tryd.func3 (by kernel_rfl)
    (of_decide_eq_true (by kernel_rfl)) (by unfold Func.isWrapper; first | (rw [if_pos (by decide +kernel)]; kernel_rfl) | (rw [if_neg (by decide +kernel)]; exact ⟨rfl, rfl⟩))
    (fun os started H enc _ F => by rw [OpenClaim.pre_eq_preRow]; exact lifted os started H enc F)
theorem plain (f : FuncId) (fn : Func) (hf : Tryd.pinned.checked.prog.funcNamed Rows.wheelScriptsRow.func = some f) (hfn : Tryd.pinned.checked.prog.funcs[f]? = some fn) :
    false = Tryd.pinned.checked.prog.looks [] ∧ ∀ (j : Nat) t, fn.params[j]? = some t → Tryd.pinned.checked.prog.wantsStandIn t = false := by
  obtain rfl : f = 3 := Option.some.inj ((show Tryd.prog.funcNamed Rows.wheelScriptsRow.func = some 3 by kernel_rfl).symm.trans hf) |>.symm
  obtain rfl : fn = Tryd.f3 := (Option.some.inj (Tryd.func3.symm.trans hfn)).symm
  refine ⟨by kernel_rfl, fun j t ht => ?_⟩
  rw [Tryd.params3] at ht
  have hm := Array.mem_of_getElem? ht
  simp only [List.mem_toArray, List.mem_cons, List.not_mem_nil, or_false] at hm
  rcases hm with rfl
  · exact (show Tryd.prog.wantsStandIn 22 = false by kernel_rfl)
theorem card : Rows.WheelScriptsCardSaid :=
  Claim7.holds_tied_plain_at .later [] _ _ _ _ said (fun _ h => by cases h) (by kernel_rfl) (fun _ h => by cases h) wheelScripts_row_tie rfl ⟨rfl, rfl⟩ (by kernel_rfl) rfl plain (by kernel_rfl)
end Go.Proofs.YtknehglahdkafaaDoor.wheelScripts
namespace Go.Proofs.YtknehglahdkafaaDoor
theorem wheelScripts_proved : Rows.WheelScriptsCardSaid := wheelScripts.card
end Go.Proofs.YtknehglahdkafaaDoor

