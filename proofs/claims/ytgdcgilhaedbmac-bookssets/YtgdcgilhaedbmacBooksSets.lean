/- For every list of books, every number and every policy the law BooksSets returns true: Set and Delete tell what the document's own do. No condition. -/
import Derived.Test.YtgdcgilhaedbmacRows
import Derived.Test.YtgdcgilhaedbmacBkLive
import Derived.Test.YtgdcgilhaedbmacBkOpen
namespace Go.Proofs.Ytgdcgilhaedbmac.booksSets
open Go.ChangeShapes Go.WideShapes Go.ChangeAt Go.RowKit
set_option linter.unusedVariables false

set_option maxRecDepth 100000 in
set_option maxHeartbeats 4000000 in
theorem many (A : Option Addr) (len cap : Nat) (id k l v b : Int) (W : World) (hn : 20 < len) (hm : len ≤ maxLen) : Calls Try.prog 4 #[.slice A len cap, .int .i64 id, .agg #[.int .i64 k, .int .i64 l, .int .i64 v, .int .i64 b]] W fun e w' => e = .returned (.bool true) ∧ Below W.heap.size W w' := by
  unfold maxLen at hm
  have d : decide ((20 : Int) < (len : Int)) = true := by simp; omega
  have HP := Lib.hid (PB.made W k l v b)
  go_enter Try.func4, Try.ntmps4
  go_wp2_with fail
  refine (live_any _).mono ?_; rintro e wl ⟨rfl, hb⟩
  have HB := Lib.hid (HP.out.step hb)
  clear hb
  go_wp2_with fail
  go_ret
  exact ⟨rfl, HB.out.be⟩
set_option maxRecDepth 100000 in
set_option maxHeartbeats 4000000 in
theorem few (A : Option Addr) (len cap : Nat) (id k l v b : Int) (L : Nat → Bk) (W : World) (hn : len ≤ 20) (hh : BksAt W A len L) : Calls Try.prog 4 #[.slice A len cap, .int .i64 id, .agg #[.int .i64 k, .int .i64 l, .int .i64 v, .int .i64 b]] W fun e w' => e = .returned (.bool true) ∧ Below W.heap.size W w' := by
  have d : decide ((20 : Int) < (len : Int)) = false := by simp; omega
  obtain ⟨c, hc⟩ := setC_ex len L id k l v b
  obtain ⟨c2, hc2⟩ := getC_ex len L id
  have S1 := Lib.hid (fun u (hu : Below W.heap.size W u) => Set_any A len cap L id k l v b c u (hh.below hu) (by omega) hc)
  have S2 := Lib.hid (fun u (hu : Below W.heap.size W u) => rSet_any A len cap L id k l v b c u (hh.below hu) (by omega) hc)
  have D1 := Lib.hid (fun u (hu : Below W.heap.size W u) => Delete_any A len cap L id c2 u (hh.below hu) (by omega) hc2)
  have D2 := Lib.hid (fun u (hu : Below W.heap.size W u) => rDelete_any A len cap L id c2 u (hh.below hu) (by omega) hc2)
  have HP := Lib.hid (PB.made W k l v b)
  generalize setL c L id k l v b = LS at *
  generalize setM c L id = m at *
  generalize delL c2 L id = LD at *
  clear hh hc hc2
  go_enter Try.func4, Try.ntmps4
  go_wp2_with fail
  generalize W.alloc (.cells #[.int .i64 k, .int .i64 l, .int .i64 v, .int .i64 b] 25) = w0 at HP ⊢
  obtain ⟨p0, p1, p2, p3⟩ := HP.out.four
  go_wp2_with fail
  refine (S1.out _ HP.out.be).mono ?_; rintro e w1 ⟨A1, c1, rfl, h1, hb⟩
  have H1 := Lib.hid (HP.out.step hb)
  have K1 := Lib.hid h1
  clear hb h1 S1 HP p0 p1 p2 p3
  obtain ⟨p0, p1, p2, p3⟩ := H1.out.four
  go_wp2_with fail
  refine (S2.out _ H1.out.be).mono ?_; rintro e w2 ⟨A2, cc2, rfl, h2, hb⟩
  have H2 := Lib.hid (H1.out.step hb)
  have K12 := Lib.hid (K1.out.below hb)
  have K22 := Lib.hid h2
  clear hb h2 S2 H1 K1 p0 p1 p2 p3
  go_wp2_with fail
  refine (D1.out _ H2.out.be).mono ?_; rintro e w3 ⟨A3, cc3, rfl, h3, hb⟩
  have H3 := Lib.hid (H2.out.step hb)
  have K13 := Lib.hid (K12.out.below hb)
  have K23 := Lib.hid (K22.out.below hb)
  have K33 := Lib.hid h3
  clear hb h3 D1 H2 K12 K22
  go_wp2_with fail
  refine (D2.out _ H3.out.be).mono ?_; rintro e w4 ⟨A4, cc4, rfl, h4, hb⟩
  have H4 := Lib.hid (H3.out.step hb)
  have K14 := Lib.hid (K13.out.below hb)
  have K24 := Lib.hid (K23.out.below hb)
  have K34 := Lib.hid (K33.out.below hb)
  have K44 := Lib.hid h4
  clear hb h4 D2 H3 K13 K23 K33
  have SE := Lib.hid (Same_eq A1 A2 len c1 cc2 LS w4 K14.out K24.out (by omega))
  go_wp2_with fail
  refine SE.out.mono ?_; rintro e w5 ⟨rfl, hb⟩
  have H5 := Lib.hid (H4.out.step hb)
  have SD := Lib.hid (Same_eq A3 A4 len cc3 cc4 LD w5 (K34.out.below hb) (K44.out.below hb) (by omega))
  clear hb SE H4 K14 K24 K34 K44
  go_wp2_with fail
  refine SD.out.mono ?_; rintro e w6 ⟨rfl, hb⟩
  have H6 := Lib.hid (H5.out.step hb)
  clear hb SD H5
  go_wp2_with fail
  refine (live_any _).mono ?_; rintro e wc ⟨rfl, hb⟩
  have H7 := Lib.hid (H6.out.step hb)
  clear hb H6
  go_wp2_with fail
  go_ret
  exact ⟨rfl, H7.out.be⟩
theorem walk (A : Option Addr) (len cap : Nat) (id k l v b : Int) {W : World} (h : IsBks W A len cap) (h1 : (Lit.int .i64 id).wf = true) (i0 : (Lit.int .i64 k).wf = true) (i1 : (Lit.int .i64 l).wf = true) (i2 : (Lit.int .i64 v).wf = true) (i3 : (Lit.int .i64 b).wf = true) : Calls Try.prog 4 #[.slice A len cap, .int .i64 id, .agg #[.int .i64 k, .int .i64 l, .int .i64 v, .int .i64 b]] W fun e w' => e = .returned (.bool true) ∧ Below W.heap.size W w' := by
  obtain ⟨q1, q2, L, hL⟩ := h
  by_cases hn : len ≤ 20
  · exact few A len cap id k l v b L W hn hL
  · exact many A len cap id k l v b W (by omega) (Nat.le_trans q1 q2)

theorem own : ownKnob Try.prog.godebug = none := by kernel_rfl
theorem laidOut : laidOutB Try.prog = true := by kernel_rfl
theorem contract (H : Type) (enc : TypeId × Value → H) (W : World) (base : Nat) (args : Array Value) (ds gs : List (DataW H)) (before : List MemPlace)
    (hval : ∀ (j : Nat) t v, Try.f4.params[j]? = some t → args[j]? = some v → Value.okWide Try.prog W .any base t v)
    (hW : DataW.Whole enc Try.prog Try.f4.params.toList Rows.booksSetsSpec.vars false W args.toList ds gs before) :
    Calls Try.prog 4 args W fun e W' => ∃ v, e = .returned v ∧ Rows.booksSetsSpec.post enc Try.prog Try.f4 false true false false W args v W' := by
  have hW' := hW
  obtain ⟨p, q, hA0, hV, rfl, hfz, hnd⟩ := hW
  have hA : DataW.TrodAll enc Try.prog W 0 (fun _ => true) true Try.f4.params.toList args.toList ds p := hA0
  rw [Try.params4] at hA hval
  obtain ⟨v0, vs0, d0, ds0, p0, q0, hargs, rfl, rfl, h0, r0⟩ := trodAll_cons hA
  obtain ⟨v1, vs1, d1, ds1, p1, q1, rfl, rfl, rfl, h1, r1⟩ := trodAll_cons r0
  obtain ⟨v2, vs2, d2, ds2, p2, q2, rfl, rfl, rfl, h2, r2⟩ := trodAll_cons r1
  obtain ⟨rfl, rfl, rfl⟩ := trodAll_nil r2
  obtain rfl : args = #[v0, v1, v2] := by cases args; simp_all
  obtain ⟨rfl, rfl⟩ := trodVars_none hV
  have k0 := h0
  have lt0 : ∀ x ∈ p0, x.block < W.heap.size := by obtain ⟨m, hm⟩ := k0; exact DataW.trod_lt m _ _ _ hm
  obtain ⟨a0, len0, cap0, rfl, w0⟩ := open_books (hval 0 22 v0 rfl rfl) h0
  obtain ⟨a1, rfl, rfl, rfl, w1⟩ := open_int Try.underlying3 (hval 1 3 v1 rfl rfl) h1
  have k2 := h2
  have lt2 : ∀ x ∈ p2, x.block < W.heap.size := by obtain ⟨m, hm⟩ := k2; exact DataW.trod_lt m _ _ _ hm
  obtain ⟨p2_k, p2_l, p2_v, p2_b, rfl, wp2_k, wp2_l, wp2_v, wp2_b⟩ := open_pol (hval 2 25 v2 rfl rfl) h2
  clear hA0
  refine (walk a0 len0 cap0 a1 p2_k p2_l p2_v p2_b w0 w1 wp2_k wp2_l wp2_v wp2_b).mono fun e W' ⟨he, bel⟩ => ?_
  subst he
  exact ⟨_, rfl, _, _, _, [], _, [], hW', trodAll_mk1 (shut_bool Try.underlying4 _), (trodAll_cons_mk (Below.trod laidOut (by kernel_rfl) (of_decide_eq_true (by kernel_rfl)) k0 bel lt0) (trodAll_cons_mk (shut_int Try.underlying3 w1) (trodAll_cons_mk (Below.trod laidOut (by kernel_rfl) (of_decide_eq_true (by kernel_rfl)) k2 bel lt2) trodAll_mk0))), rfl, bel.frame _, fun h => by cases h⟩

set_option maxRecDepth 100000 in
theorem lifted (os : Os) (started : os.Started) (H : Type) (enc : TypeId × Value → H) :
    ReturnsInHanded {} Try.checked os 4 .any (Rows.booksSetsSpec.pre6 enc Try.prog Try.f4 Rows.booksSetsRow.domain false) (Rows.booksSetsSpec.post enc Try.prog Try.f4 false true false false) := by
  refine returnsInHanded_of_change (C := Try.checked) own started (by kernel_rfl) Try.func4
    (ChangeSpec.witness6 (enc := enc) (C := Try.checked) false ⟨#[], #[.slice none 0 0, .int .i64 0, .agg #[.int .i64 0, .int .i64 0, .int .i64 0, .int .i64 0]], []⟩ 8 (by kernel_rfl) (by kernel_rfl) (by kernel_rfl) (by kernel_rfl)) ?_
  intro W base args ds gs before hval hW _ _
  exact contract H enc W base args ds gs before hval hW

theorem over : Rows.booksSetsRow.holds Try.pinned (OpenSpec.ofChange Rows.booksSetsSpec) :=
  OpenClaim.holds_of_wide 4 Try.f4 rfl rfl rfl rfl rfl rfl rfl ⟨rfl, rfl, rfl, rfl, rfl⟩ rfl rfl rfl rfl rfl (by kernel_rfl) Try.func4 (by kernel_rfl)
    (of_decide_eq_true (by kernel_rfl)) (by unfold Func.isWrapper; first | (rw [if_pos (by decide +kernel)]; kernel_rfl) | (rw [if_neg (by decide +kernel)]; exact ⟨rfl, rfl⟩))
    (fun os started H enc _ => lifted os started H enc)
end Go.Proofs.Ytgdcgilhaedbmac.booksSets
namespace Go.Proofs.Ytgdcgilhaedbmac
theorem booksSets_proved : Rows.BooksSetsSaid := booksSets.over
end Go.Proofs.Ytgdcgilhaedbmac

