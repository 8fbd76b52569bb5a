/- For every list of books and every number the law BooksTells returns true: May, Live, Get and New tell what the document's own do. No condition. -/
import Derived.Test.YtgdcgilhaedbmacRows
import Derived.Test.YtgdcgilhaedbmacBkLive
import Derived.Test.YtgdcgilhaedbmacBkOpen
namespace Go.Proofs.Ytgdcgilhaedbmac.booksTells
open Go.ChangeShapes Go.WideShapes Go.ChangeAt Go.RowKit
set_option linter.unusedVariables false

set_option maxRecDepth 100000 in
set_option maxHeartbeats 4000000 in
theorem many (A : Option Addr) (len cap : Nat) (id : Int) (W : World) (hn : 20 < len) (hm : len ≤ maxLen) : Calls Try.prog 3 #[.slice A len cap, .int .i64 id] W fun e w' => e = .returned (.bool true) ∧ Below W.heap.size W w' := by
  unfold maxLen at hm
  have d : decide ((20 : Int) < (len : Int)) = true := by simp; omega
  go_enter Try.func3, Try.ntmps3
  go_wp2_with fail
  refine (live_any _).mono ?_; rintro e wl ⟨rfl, hb⟩
  have HB := Lib.hid hb
  clear hb
  go_wp2_with fail
  go_ret
  exact ⟨rfl, HB.out⟩
set_option maxRecDepth 100000 in
set_option maxHeartbeats 4000000 in
theorem few (A : Option Addr) (len cap : Nat) (id : Int) (L : Nat → Bk) (W : World) (hn : len ≤ 20) (hh : BksAt W A len L) : Calls Try.prog 3 #[.slice A len cap, .int .i64 id] W fun e w' => e = .returned (.bool true) ∧ Below W.heap.size W w' := by
  have d : decide ((20 : Int) < (len : Int)) = false := by simp; omega
  obtain ⟨c, hc⟩ := getC_ex len L id
  have G1 := Lib.hid (Get_any A len cap L id c W hh (by omega) hc)
  have G2 := Lib.hid (fun u (hu : Below W.heap.size W u) => rGet_any A len cap L id c u (hh.below hu) (by omega) hc)
  obtain ⟨r, hr⟩ : ∃ r : Bool, MayBs len L ↔ r = true := by
    by_cases h : MayBs len L
    · exact ⟨true, fun _ => rfl, fun _ => h⟩
    · exact ⟨false, fun q => absurd q h, fun q => by cases q⟩
  have M1 := Lib.hid (fun u (hu : Below W.heap.size W u) => May_any r A len cap L u (hh.below hu) (by omega) hr)
  have M2 := Lib.hid (fun u (hu : Below W.heap.size W u) => rMay_any r A len cap L u (hh.below hu) (by omega) hr)
  have L1 := Lib.hid (fun u (hu : Below W.heap.size W u) => Live_any A len cap L u (hh.below hu) (by omega))
  have L2 := Lib.hid (fun u (hu : Below W.heap.size W u) => rLive_any A len cap L u (hh.below hu) (by omega))
  have ll := liveL_len L len
  generalize gotV c (L id.toNat) = B at *
  obtain ⟨on, k, l, v, b, n⟩ := B
  clear hh hr hc
  go_enter Try.func3, Try.ntmps3
  go_wp2_with fail
  refine G1.out.mono ?_; rintro e w1 ⟨rfl, hb⟩
  have P1 := Lib.hid (Has.made w1 25 [.int .i64 k, .int .i64 l, .int .i64 v, .int .i64 b])
  have B1 := Lib.hid (hb.alloc hb.size (.cells #[.int .i64 k, .int .i64 l, .int .i64 v, .int .i64 b] 25))
  clear hb G1
  go_wp2_with fail
  refine (G2.out _ B1.out).mono ?_; rintro e w2 ⟨rfl, hb⟩
  have P2 := Lib.hid ((hstep P1.out hb).alloc (.cells #[.int .i64 k, .int .i64 l, .int .i64 v, .int .i64 b] 25))
  have Q2 := Lib.hid (Has.made w2 25 [.int .i64 k, .int .i64 l, .int .i64 v, .int .i64 b])
  have bb := B1.out.trans (hb.mono B1.out.size)
  have B2 := Lib.hid (bb.alloc bb.size (.cells #[.int .i64 k, .int .i64 l, .int .i64 v, .int .i64 b] 25))
  clear hb bb G2 P1 B1
  go_wp2_with fail
  generalize w2.alloc (.cells #[.int .i64 k, .int .i64 l, .int .i64 v, .int .i64 b] 25) = w3 at P2 Q2 B2 ⊢
  generalize w1.heap.size = g1 at P2 ⊢
  generalize w2.heap.size = g2 at Q2 ⊢
  refine (M1.out _ B2.out).mono ?_; rintro e w4 ⟨rfl, hb⟩
  have P4 := Lib.hid (hstep P2.out hb)
  have Q4 := Lib.hid (hstep Q2.out hb)
  have B4 := Lib.hid (B2.out.trans (hb.mono B2.out.size))
  clear hb P2 Q2 B2 M1
  go_wp2_with fail
  refine (M2.out _ B4.out).mono ?_; rintro e w5 ⟨rfl, hb⟩
  have P5 := Lib.hid (hstep P4.out hb)
  have Q5 := Lib.hid (hstep Q4.out hb)
  have B5 := Lib.hid (B4.out.trans (hb.mono B4.out.size))
  clear hb P4 Q4 B4 M2
  go_wp2_with fail
  refine (L1.out _ B5.out).mono ?_; rintro e w6 ⟨A6, c6, rfl, h6, hb⟩
  have P6 := Lib.hid (hstep P5.out hb)
  have Q6 := Lib.hid (hstep Q5.out hb)
  have B6 := Lib.hid (B5.out.trans (hb.mono B5.out.size))
  have R6 := Lib.hid h6
  clear hb h6 P5 Q5 B5 L1
  go_wp2_with fail
  refine (L2.out _ B6.out).mono ?_; rintro e w7 ⟨A7, c7, rfl, h7, hb⟩
  have P7 := Lib.hid (hstep P6.out hb)
  have Q7 := Lib.hid (hstep Q6.out hb)
  have B7 := Lib.hid (B6.out.trans (hb.mono B6.out.size))
  have IQ := Lib.hid (Ints_eq A6 A7 _ c6 c7 _ w7 (R6.out.below hb) h7 (by omega))
  clear hb h7 P6 Q6 B6 L2 R6
  go_wp2_with fail
  refine IQ.out.mono ?_; rintro e w8 ⟨rfl, hb⟩
  have P8 := Lib.hid (hstep P7.out hb)
  have Q8 := Lib.hid (hstep Q7.out hb)
  have B8 := Lib.hid (B7.out.trans (hb.mono B7.out.size))
  clear hb P7 Q7 B7 IQ
  obtain ⟨p0, p1, p2, p3⟩ := hfour P8.out
  obtain ⟨q0, q1, q2, q3⟩ := hfour Q8.out
  go_wp2_with fail
  refine (New_any _).mono ?_; rintro e w9 ⟨A9, c9, rfl, h9, hb⟩
  have B9 := Lib.hid (B8.out.trans (hb.mono B8.out.size))
  have N9 := Lib.hid h9
  clear hb h9 B8 P8 Q8 p0 p1 p2 p3 q0 q1 q2 q3
  go_wp2_with fail
  refine (rNew_any _).mono ?_; rintro e wa ⟨Aa, ca, rfl, ha, hb⟩
  have Ba := Lib.hid (B9.out.trans (hb.mono B9.out.size))
  have SE := Lib.hid (Same_eq A9 Aa 8 c9 ca L0 wa (N9.out.below hb) ha (by decide))
  clear hb ha B9 N9
  go_wp2_with fail
  refine SE.out.mono ?_; rintro e wb ⟨rfl, hb⟩
  have Bb := Lib.hid (Ba.out.trans (hb.mono Ba.out.size))
  clear hb Ba SE
  go_wp2_with fail
  refine (live_any _).mono ?_; rintro e wc ⟨rfl, hb⟩
  have Bc := Lib.hid (Bb.out.trans (hb.mono Bb.out.size))
  clear hb Bb
  go_wp2_with fail
  go_ret
  exact ⟨rfl, Bc.out⟩
theorem walk (A : Option Addr) (len cap : Nat) (id : Int) {W : World} (h : IsBks W A len cap) (h1 : (Lit.int .i64 id).wf = true) : Calls Try.prog 3 #[.slice A len cap, .int .i64 id] W fun e w' => e = .returned (.bool true) ∧ Below W.heap.size W w' := by
  obtain ⟨q1, q2, L, hL⟩ := h
  by_cases hn : len ≤ 20
  · exact few A len cap id L W hn hL
  · exact many A len cap id W (by omega) (Nat.le_trans q1 q2)

theorem own : ownKnob Try.prog.godebug = none := by kernel_rfl
theorem laidOut : laidOutB Try.prog = true := by kernel_rfl
theorem contract (H : Type) (enc : TypeId × Value → H) (W : World) (base : Nat) (args : Array Value) (ds gs : List (DataW H)) (before : List MemPlace)
    (hval : ∀ (j : Nat) t v, Try.f3.params[j]? = some t → args[j]? = some v → Value.okWide Try.prog W .any base t v)
    (hW : DataW.Whole enc Try.prog Try.f3.params.toList Rows.booksTellsSpec.vars false W args.toList ds gs before) :
    Calls Try.prog 3 args W fun e W' => ∃ v, e = .returned v ∧ Rows.booksTellsSpec.post enc Try.prog Try.f3 false true false false W args v W' := by
  have hW' := hW
  obtain ⟨p, q, hA0, hV, rfl, hfz, hnd⟩ := hW
  have hA : DataW.TrodAll enc Try.prog W 0 (fun _ => true) true Try.f3.params.toList args.toList ds p := hA0
  rw [Try.params3] at hA hval
  obtain ⟨v0, vs0, d0, ds0, p0, q0, hargs, rfl, rfl, h0, r0⟩ := trodAll_cons hA
  obtain ⟨v1, vs1, d1, ds1, p1, q1, rfl, rfl, rfl, h1, r1⟩ := trodAll_cons r0
  obtain ⟨rfl, rfl, rfl⟩ := trodAll_nil r1
  obtain rfl : args = #[v0, v1] := by cases args; simp_all
  obtain ⟨rfl, rfl⟩ := trodVars_none hV
  have k0 := h0
  have lt0 : ∀ x ∈ p0, x.block < W.heap.size := by obtain ⟨m, hm⟩ := k0; exact DataW.trod_lt m _ _ _ hm
  obtain ⟨a0, len0, cap0, rfl, w0⟩ := open_books (hval 0 22 v0 rfl rfl) h0
  obtain ⟨a1, rfl, rfl, rfl, w1⟩ := open_int Try.underlying3 (hval 1 3 v1 rfl rfl) h1
  clear hA0
  refine (walk a0 len0 cap0 a1 w0 w1).mono fun e W' ⟨he, bel⟩ => ?_
  subst he
  exact ⟨_, rfl, _, _, _, [], _, [], hW', trodAll_mk1 (shut_bool Try.underlying4 _), (trodAll_cons_mk (Below.trod laidOut (by kernel_rfl) (of_decide_eq_true (by kernel_rfl)) k0 bel lt0) (trodAll_cons_mk (shut_int Try.underlying3 w1) trodAll_mk0)), rfl, bel.frame _, fun h => by cases h⟩

set_option maxRecDepth 100000 in
theorem lifted (os : Os) (started : os.Started) (H : Type) (enc : TypeId × Value → H) :
    ReturnsInHanded {} Try.checked os 3 .any (Rows.booksTellsSpec.pre6 enc Try.prog Try.f3 Rows.booksTellsRow.domain false) (Rows.booksTellsSpec.post enc Try.prog Try.f3 false true false false) := by
  refine returnsInHanded_of_change (C := Try.checked) own started (by kernel_rfl) Try.func3
    (ChangeSpec.witness6 (enc := enc) (C := Try.checked) false ⟨#[], #[.slice none 0 0, .int .i64 0], []⟩ 8 (by kernel_rfl) (by kernel_rfl) (by kernel_rfl) (by kernel_rfl)) ?_
  intro W base args ds gs before hval hW _ _
  exact contract H enc W base args ds gs before hval hW

theorem over : Rows.booksTellsRow.holds Try.pinned (OpenSpec.ofChange Rows.booksTellsSpec) :=
  OpenClaim.holds_of_wide 3 Try.f3 rfl rfl rfl rfl rfl rfl rfl ⟨rfl, rfl, rfl, rfl, rfl⟩ rfl rfl rfl rfl rfl (by kernel_rfl) Try.func3 (by kernel_rfl)
    (of_decide_eq_true (by kernel_rfl)) (by unfold Func.isWrapper; first | (rw [if_pos (by decide +kernel)]; kernel_rfl) | (rw [if_neg (by decide +kernel)]; exact ⟨rfl, rfl⟩))
    (fun os started H enc _ => lifted os started H enc)
end Go.Proofs.Ytgdcgilhaedbmac.booksTells
namespace Go.Proofs.Ytgdcgilhaedbmac
theorem booksTells_proved : Rows.BooksTellsSaid := booksTells.over
end Go.Proofs.Ytgdcgilhaedbmac

