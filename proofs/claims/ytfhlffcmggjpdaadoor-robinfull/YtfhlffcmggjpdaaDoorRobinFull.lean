/- For every seed and number of bits the law RobinFull returns true: a table takes as many keys as it has slots, and no more; each of them is found; a key that is there is taken still. -/
import Derived.Test.YtfhlffcmggjpdaaDoorRbLive
import Derived.Test.YtfhlffcmggjpdaaDoorHashTab
import Derived.Test.YtfhlffcmggjpdaaDoorRows
import Derived.Laws.IdiomStrings
namespace Go.Proofs.YtfhlffcmggjpdaaDoor.robinFull
open Go.ChangeShapes Go.WideShapes Go.ChangeAt Go.RowKit
set_option linter.unusedVariables false

def ub (i : Nat) : UInt8 := UInt8.ofNat i
def ky (i : Nat) : ByteArray := ⟨[ub i, ub (7 * i)].toArray⟩
theorem back2 (w : World) (g cap : Nat) (u v : UInt8) (h : w.cell? ⟨g, 0, none⟩ = some (.int .u8 (u.toNat : Nat))) (h1 : w.cell? ⟨g, 1, none⟩ = some (.int .u8 (v.toNat : Nat))) :
    (convert 59 9 (.slice (some ⟨g, 0, none⟩) 2 cap)).run Tryd.prog w = .ok (.string ⟨[u, v].toArray⟩) w :=
  run_convert_bytes_back (P := Tryd.prog) w 59 9 5 ⟨g, 0, none⟩ cap [u, v] Tryd.underlying59 Tryd.underlying5 Tryd.underlying9 (by
    intro j hj
    have e : ∀ i, (⟨g, 0, none⟩ : Addr).add i = ⟨g, i, none⟩ := fun i => by unfold Addr.add; split <;> simp_all
    rw [e]
    match j, hj with
    | 0, _ => exact h
    | 1, _ => exact h1)
theorem ub_nat {i : Nat} (h : i < 64) : ((ub i).toNat : Int) = (i : Int) ∧ ((ub (7 * i)).toNat : Int) = 7 * (i : Int) % 256 := by
  unfold ub
  constructor
  · rw [UInt8.toNat_ofNat']; omega
  · rw [UInt8.toNat_ofNat']; omega
theorem ky_inj {i j : Nat} (hi : i < 64) (hj : j < 64) (h : ky i = ky j) : i = j := by
  have h1 : (ky i).data.toList = (ky j).data.toList := by rw [h]
  have h2 : ub i = ub j := by
    have : [ub i, ub (7 * i)] = [ub j, ub (7 * j)] := by simpa [ky] using h1
    exact (List.cons.inj this).1
  have h3 := (ub_nat hi).1
  have h4 := (ub_nat hj).1
  rw [h2] at h3
  omega
theorem ky_size (i : Nat) : (ky i).size = 2 := rfl
theorem ky_more (i : Nat) : (⟨#[109, 111, 114, 101]⟩ : ByteArray) ≠ ky i := fun h => by
  have : (⟨#[109, 111, 114, 101]⟩ : ByteArray).size = (ky i).size := by rw [h]
  rw [ky_size] at this
  exact absurd this (by decide)
theorem ky_run (j : Nat) (hj : j < 64) (w : World) : (convert 59 9 (.slice (some ⟨w.heap.size, 0, none⟩) 2 2)).run Tryd.prog (w.alloc (.cells #[.int .u8 (j : Int), .int .u8 (7 * (j : Int) % 256)] 5)) = .ok (.string (ky j)) (w.alloc (.cells #[.int .u8 (j : Int), .int .u8 (7 * (j : Int) % 256)] 5)) := by
  refine back2 _ _ _ (ub j) (ub (7 * j)) ?_ ?_
  · rw [(ub_nat hj).1]; simp
  · rw [(ub_nat hj).2]; simp
/-- Behind the first i of n keys. -/
structure FullI (w : World) (bP bS seed bits : Nat) (n i : Nat) (wr : World) (M : ByteArray → Option Int) : Prop where
  t : TT wr bP bS seed bits M i
  yes : ∀ j, j < i → M (ky j) = some (j : Int)
  no : ∀ j, i ≤ j → j < n → M (ky j) = none
  more : M ⟨#[109, 111, 114, 101]⟩ = none
  b : Below w.heap.size w wr
theorem FullI.next {w : World} {bP bS seed bits n j : Nat} {wr w' : World} {M : ByteArray → Option Int} (h : FullI w bP bS seed bits n j wr M) (hj : j < n) (hn : n ≤ 64) (hT : TT w' bP bS seed bits (upd M (ky j) (some (j : Int))) (j + 1)) (hb : Below w.heap.size w w') :
    FullI w bP bS seed bits n (j + 1) w' (upd M (ky j) (some (j : Int))) := by
  refine ⟨hT, fun i hi => ?_, fun i h1 h2 => ?_, ?_, hb⟩
  · by_cases e : i = j
    · rw [e]; exact upd_same _ _ _
    · rw [upd_other _ _ (fun q => e (ky_inj (by omega) (by omega) q))]; exact h.yes i (by omega)
  · rw [upd_other _ _ (fun q => by have := ky_inj (by omega) (by omega) q; omega)]; exact h.no i (by omega) h2
  · rw [upd_other _ _ (ky_more j)]; exact h.more
set_option maxRecDepth 100000 in
set_option maxHeartbeats 1000000 in
theorem walk1 (seed bits : Nat) (hs : U seed) (b1 : 1 ≤ bits) (b2 : bits ≤ 6) (W : World) (ht : TabW W) :
    Calls Tryd.prog 7 #[.int .u64 (seed : Int), .int .i64 (bits : Int)] W fun e w' => e = .returned (.bool true) ∧ Below W.heap.size W w' := by
  have HT := Lib.hid (fun w' (h : Below W.heap.size W w') => ht.below h)
  have HN := Lib.hid (New_T seed bits W hs b1 (by omega))
  clear ht hs
  go_enter Tryd.func7, Tryd.ntmps7
  go_wp2_with fail
  refine HN.out.mono ?_
  rintro e w1 ⟨bP, bS, rfl, hW, hB, h1, h2⟩
  have HW0 := Lib.hid hW
  have HB0 := Lib.hid hB
  have HBK := Lib.hid (fun w' w'' (h : Below W.heap.size W w') (k : Kept (fun b => b = bS) w' w'') => h.trans (k.below (B := W.heap.size) h.size (fun i hi hf => by omega)))
  clear hW hB h1 h2
  go_wp2_with fail
  obtain ⟨n, hn⟩ : ∃ n, n = 2 ^ bits := ⟨_, rfl⟩
  have hn2 : n ≤ 64 := by rw [hn]; exact Nat.le_trans (Nat.pow_le_pow_right (by decide) b2) (by decide)
  have hw : wrap64 (2 ^ bits) = ((n : Nat) : Int) := by
    rw [hn]
    have hc : bits = 1 ∨ bits = 2 ∨ bits = 3 ∨ bits = 4 ∨ bits = 5 ∨ bits = 6 := by omega
    rcases hc with rfl | rfl | rfl | rfl | rfl | rfl <;> decide +kernel
  rw [hw]
  have HNN := Lib.hid hn
  have HI0 := Lib.hid (show FullI W bP bS seed bits n 0 w1 (fun _ => none) from ⟨HW0.out, fun j hj => absurd hj (by omega), fun _ _ _ => rfl, rfl, HB0.out⟩)
  clear hn hw
  go_loopw [8] (fun i wr => ∃ (j : Nat) (M : ByteArray → Option Int), j ≤ n ∧ i = .int .i64 (j : Int) ∧ FullI W bP bS seed bits n j wr M) (fun i _ => n - (intOf i).toNat)
  case atStart => exact ⟨0, _, Nat.zero_le _, rfl, HI0.out⟩
  case round =>
    obtain ⟨j, M, hj, rfl, hI⟩ := hrel
    have HI := Lib.hid hI
    clear hI
    by_cases hlt : j < n
    · have hj64 : j < 64 := by omega
      have RC := ky_run j hj64 wr
      have HB1 := Lib.hid (HI.out.b.alloc HI.out.b.size (.cells #[.int .u8 (j : Int), .int .u8 (7 * (j : Int) % 256)] 5))
      have HT1 := Lib.hid (HI.out.t.below ((Below.refl _ wr).alloc (Nat.le_refl _) (.cells #[.int .u8 (j : Int), .int .u8 (7 * (j : Int) % 256)] 5)))
      have HJ := Lib.hid (show j < n ∧ j < 64 from ⟨hlt, hj64⟩)
      go_wp2_with fail
      refine (Put_newT bP bS seed bits M j (ky j) (j : Int) _ HT1.out (HT.out _ HB1.out) (by rw [ky_size]; decide) (by unfold I64; have := HJ.out.2; omega) (HI.out.no j (Nat.le_refl _) HJ.out.1) (by rw [← HNN.out]; exact Nat.ne_of_lt HJ.out.1)).mono ?_
      rintro e w2 ⟨rfl, hT, hK⟩
      have HI2 := Lib.hid (HI.out.next HJ.out.1 hn2 hT (HBK.out _ _ HB1.out hK))
      clear hT hK RC
      go_wp2
      go_roundw
      case rel => exact ⟨j + 1, _, HJ.out.1, by go_num, HI2.out⟩
      case measure => simp [intOf]; omega
    · obtain rfl : j = n := by omega
      have HM2 := Lib.hid hn2
      have HI3 := Lib.hid HI.out
      clear HI HI0 HW0 HB0 HN
      go_wp2_with fail
      go_loopw [9] (fun i wv => ∃ q : Nat, q ≤ j ∧ i = .int .i64 (q : Int) ∧ FullI W bP bS seed bits j j wv M) (fun i _ => j - (intOf i).toNat)
      case atStart => exact ⟨0, Nat.zero_le _, rfl, HI3.out⟩
      case round =>
        obtain ⟨q, hq, rfl, hI⟩ := hrel
        have HI4 := Lib.hid hI
        clear hI HI3
        by_cases hlq : q < j
        · have hq64 : q < 64 := by omega
          have RC := ky_run q hq64 wr
          have HB1 := Lib.hid (HI4.out.b.alloc HI4.out.b.size (.cells #[.int .u8 (q : Int), .int .u8 (7 * (q : Int) % 256)] 5))
          have HT1 := Lib.hid (HI4.out.t.below ((Below.refl _ wr).alloc (Nat.le_refl _) (.cells #[.int .u8 (q : Int), .int .u8 (7 * (q : Int) % 256)] 5)))
          go_wp2_with fail
          refine (Get_at bP bS seed bits M j (ky q) (some (q : Int)) _ HT1.out (HT.out _ HB1.out) (by rw [ky_size]; decide) (HI4.out.yes q hlq)).mono ?_
          rintro e w2 ⟨rfl, hb⟩
          have HI5 := Lib.hid (show FullI W bP bS seed bits j j w2 M from ⟨HT1.out.below hb, HI4.out.yes, HI4.out.no, HI4.out.more, HB1.out.trans (hb.mono HB1.out.size)⟩)
          clear hb RC
          go_wp2
          go_roundw
          case rel => exact ⟨q + 1, by omega, by go_num, HI5.out⟩
          case measure => simp [intOf]; omega
        · obtain rfl : q = j := by omega
          have HQ1 := Lib.hid (show 1 < q by rw [HNN.out]; exact Nat.one_lt_two_pow (by omega))
          go_wp2_with fail
          refine (Put_fullT bP bS seed bits M q ⟨#[109, 111, 114, 101]⟩ 1 wr HI4.out.t (HT.out _ HI4.out.b) (by decide) (by unfold I64; decide) HI4.out.more HNN.out).mono ?_
          rintro e w2 ⟨rfl, hT, hK⟩
          have HT2 := Lib.hid (show TT w2 bP bS seed bits M q from hT)
          have HB2 := Lib.hid (HBK.out _ _ HI4.out.b hK)
          clear hT hK
          go_wp2_with fail
          refine (Put_setT bP bS seed bits M q ⟨#[1, 7]⟩ 99 w2 HT2.out (HT.out _ HB2.out) (by decide) (by unfold I64; decide) (by rw [show (⟨#[1, 7]⟩ : ByteArray) = ky 1 from by decide +kernel, HI4.out.yes 1 HQ1.out]; rfl)).mono ?_
          rintro e w3 ⟨rfl, hT, hK⟩
          have HT3 := Lib.hid (show TT w3 bP bS seed bits (upd M ⟨#[1, 7]⟩ (some 99)) q from hT)
          have HB3 := Lib.hid (HBK.out _ _ HB2.out hK)
          clear hT hK
          go_wp2_with fail
          refine (Len_T bP bS seed bits _ q w3 HT3.out).mono ?_
          rintro e w4 ⟨rfl, hb⟩
          have HB4 := Lib.hid (HB3.out.trans (hb.mono HB3.out.size))
          clear hb
          go_wp2_with fail
          refine (live_any w4 (HT.out _ HB4.out)).mono ?_
          rintro e w5 ⟨rfl, hb⟩
          have HB5 := Lib.hid (HB4.out.trans (hb.mono HB4.out.size))
          clear hb
          go_wp2
          go_ret
          exact ⟨rfl, HB5.out⟩
theorem walk (x b : Int) (hx : (Lit.int .u64 x).wf = true) (hb : (Lit.int .i64 b).wf = true) (W : World) (ht : TabW W) :
    Calls Tryd.prog 7 #[.int .u64 x, .int .i64 b] W fun e w' => e = .returned (.bool true) ∧ Below W.heap.size W w' := by
  obtain ⟨a, rfl, ha⟩ := wf_u hx
  by_cases h1 : 1 ≤ b ∧ b ≤ 6
  · obtain ⟨k, rfl⟩ := Int.eq_ofNat_of_zero_le (show 0 ≤ b by omega)
    exact walk1 a k ha (by omega) (by omega) W ht
  · have HT := Lib.hid ht
    clear ht hx hb ha
    by_cases h2 : b < 1
    · clear h1
      go_enter Tryd.func7, Tryd.ntmps7
      go_wp2_with fail
      refine (live_any W HT.out).mono ?_
      rintro e w1 ⟨rfl, hb⟩
      go_wp2
      go_ret
      exact ⟨rfl, hb⟩
    · have h3 : 6 < b := by omega
      clear h1
      go_enter Tryd.func7, Tryd.ntmps7
      go_wp2_with fail
      refine (live_any W HT.out).mono ?_
      rintro e w1 ⟨rfl, hb⟩
      go_wp2
      go_ret
      exact ⟨rfl, hb⟩

theorem own : ownKnob Tryd.prog.godebug = none := by kernel_rfl
theorem laidOut : laidOutB Tryd.prog = true := by kernel_rfl
theorem contract (H : Type) (enc : TypeId × Value → H) (W : World) (base : Nat) (args : Array Value) (ds gs : List (DataW H)) (before : List MemPlace)
    (hval : ∀ (j : Nat) t v, Tryd.f7.params[j]? = some t → args[j]? = some v → Value.okWide Tryd.prog W .any base t v)
    (hW : DataW.Whole enc Tryd.prog Tryd.f7.params.toList Rows.robinFullSpec.vars false W args.toList ds gs before) (hL : laidMetH Tryd.prog Rows.robinFullRow.laid W) :
    Calls Tryd.prog 7 args W fun e W' => ∃ v, e = .returned v ∧ Rows.robinFullSpec.post enc Tryd.prog Tryd.f7 false true false false W args v W' := by
  have hW' := hW
  obtain ⟨p, q, hA0, hV, rfl, hfz, hnd⟩ := hW
  have hA : DataW.TrodAll enc Tryd.prog W 0 (fun _ => true) true Tryd.f7.params.toList args.toList ds p := hA0
  rw [Tryd.params7] at hA hval
  obtain ⟨v0, vs0, d0, ds0, p0, q0, hargs, rfl, rfl, h0, r0⟩ := trodAll_cons hA
  obtain ⟨v1, vs1, d1, ds1, p1, q1, rfl, rfl, rfl, h1, r1⟩ := trodAll_cons r0
  obtain ⟨rfl, rfl, rfl⟩ := trodAll_nil r1
  obtain rfl : args = #[v0, v1] := by cases args; simp_all
  obtain ⟨rfl, rfl⟩ := trodVars_none hV
  obtain ⟨a0, rfl, rfl, rfl, w0⟩ := open_int Tryd.underlying22 (hval 0 22 v0 rfl rfl) h0
  obtain ⟨a1, rfl, rfl, rfl, w1⟩ := open_int Tryd.underlying3 (hval 1 3 v1 rfl rfl) h1
  clear hA0
  refine (walk a0 a1 w0 w1 W (tabW_of hL)).mono fun e W' ⟨he, bel⟩ => ?_
  subst he
  exact ⟨_, rfl, _, _, _, [], _, [], hW', trodAll_mk1 (shut_bool Tryd.underlying4 _), (trodAll_cons_mk (shut_int Tryd.underlying22 w0) (trodAll_cons_mk (shut_int Tryd.underlying3 w1) trodAll_mk0)), rfl, bel.frame _, fun h => by cases h⟩

theorem laid_met (os : Os) : laidMet Tryd.prog Rows.robinFullRow.laid ((laidWorld os).forCall (fun _ _ => 0) ⟨#[], #[.int .u64 0, .int .i64 0], []⟩).memory :=
  laidMet_of_run' 8 (by kernel_rfl) (by kernel_rfl)
theorem reads (os : Os) {H : Type} (enc : TypeId × Value → H) : ∃ places, DataW.whole enc Tryd.prog ((laidWorld os).forCall (fun _ _ => 0) ⟨#[], #[.int .u64 0, .int .i64 0], []⟩).memory Tryd.f7.params.toList Rows.robinFullSpec.vars false (#[.int .u64 0, .int .i64 0] : Array Value).toList 8 = some ([.lit (.int .u64 0), .lit (.int .i64 0)], [], places) :=
  ⟨[], by kernel_rfl⟩

set_option maxRecDepth 100000 in
theorem lifted (os : Os) (started : os.Started) (H : Type) (enc : TypeId × Value → H) (F : Stop.Interp) :
    ReturnsInHanded {} Tryd.checked os 7 .any ((OpenSpec.ofChange Rows.robinFullSpec).preRow enc Tryd.prog Tryd.f7 Rows.robinFullRow.domain false Rows.robinFullRow.laid) (((OpenSpec.ofChange Rows.robinFullSpec).at F).post enc Tryd.prog Tryd.f7 false true false false) := by
  obtain ⟨places, hx⟩ := reads os enc
  refine returnsInHanded_of_row (C := Tryd.checked) (s := OpenSpec.ofChange Rows.robinFullSpec) own started (by kernel_rfl) Tryd.func7
    (witness_row_at (enc := enc) (C := Tryd.checked) false (laidWorld os) #[.int .u64 0, .int .i64 0] rfl (by kernel_rfl) (by kernel_rfl) (by kernel_rfl)
      (OpenSpec.preRow_of_cond 8 hx (by kernel_rfl) (fun k hk => by cases hk) (by kernel_rfl) (laid_met os))) ?_
  intro W base args ds gs before hval hW _ _ _ hL _ _
  exact contract H enc W base args ds gs before hval hW hL

theorem said : Rows.RobinFullSaid :=
  OpenClaim.holds_of_cond 7 Tryd.f7 rfl rfl rfl rfl rfl rfl rfl ⟨rfl, rfl, rfl, rfl, rfl⟩ rfl rfl rfl rfl rfl (by kernel_rfl) Tryd.func7 (by kernel_rfl)
    (of_decide_eq_true (by kernel_rfl)) (by unfold Func.isWrapper; first | (rw [if_pos (by decide +kernel)]; kernel_rfl) | (rw [if_neg (by decide +kernel)]; exact ⟨rfl, rfl⟩))
    (fun os started H enc _ F => by rw [OpenClaim.pre_eq_preRow]; exact lifted os started H enc F)
theorem plain (f : FuncId) (fn : Func) (hf : Tryd.pinned.checked.prog.funcNamed Rows.robinFullRow.func = some f) (hfn : Tryd.pinned.checked.prog.funcs[f]? = some fn) :
    false = Tryd.pinned.checked.prog.looks [] ∧ ∀ (j : Nat) t, fn.params[j]? = some t → Tryd.pinned.checked.prog.wantsStandIn t = false := by
  obtain rfl : f = 7 := Option.some.inj ((show Tryd.prog.funcNamed Rows.robinFullRow.func = some 7 by kernel_rfl).symm.trans hf) |>.symm
  obtain rfl : fn = Tryd.f7 := (Option.some.inj (Tryd.func7.symm.trans hfn)).symm
  refine ⟨by kernel_rfl, fun j t ht => ?_⟩
  rw [Tryd.params7] at ht
  have hm := Array.mem_of_getElem? ht
  simp only [List.mem_toArray, List.mem_cons, List.not_mem_nil, or_false] at hm
  rcases hm with rfl | rfl
  · exact (show Tryd.prog.wantsStandIn 22 = false by kernel_rfl)
  · exact (show Tryd.prog.wantsStandIn 3 = false by kernel_rfl)
theorem card : Rows.RobinFullCardSaid :=
  Claim7.holds_tied_plain_at .later [] _ _ _ _ said (fun _ h => by cases h) (by kernel_rfl) (fun _ h => by cases h) robinFull_row_tie rfl ⟨rfl, rfl⟩ (by kernel_rfl) rfl plain (by kernel_rfl)
end Go.Proofs.YtfhlffcmggjpdaaDoor.robinFull
namespace Go.Proofs.YtfhlffcmggjpdaaDoor
theorem robinFull_proved : Rows.RobinFullCardSaid := robinFull.card
end Go.Proofs.YtfhlffcmggjpdaaDoor

