/- For any answer the law AnswerWrites returns true: whether it may be, and its bytes, are as the document has them (of more than 40 things or keys of more than 300 bytes only the examples are asked). No condition. -/
import Derived.Test.YtljllfopgpmekabRows
import Derived.Test.YtljllfopgpmekabSa5
import Derived.Test.YtljllfopgpmekabAnOpen
import Derived.Test.YtljllfopgpmekabRa3
namespace Go.Proofs.Ytljllfopgpmekab.answerWrites
open Go.ChangeShapes Go.WideShapes Go.ChangeAt Go.RowKit
open Go.ChangeMaps (open_string shut_string)
set_option linter.unusedVariables false

set_option maxRecDepth 100000 in
set_option maxHeartbeats 2000000 in
theorem walk (a : An) (v : Value) {w : World} (ha : IsAn w v a) :
    Calls Try.prog 8 #[v] w fun e w' => e = .returned (.bool true) ∧ Below w.heap.size w w' := by
  obtain ⟨A, ca, N, cn, rfl, ha⟩ := ha
  have IA := Lib.hid (fun u (hu : Below w.heap.size w u) => ha.old hu)
  have X0 := Lib.hid (BW.made (anC a A ca N cn) w)
  unfold anC at X0 ⊢
  clear ha
  go_enter Try.func8, Try.ntmps8
  go_wp2_with fail
  refine (Short_any a _ _ (IA.out _ X0.out.be)).mono ?_
  rintro e w1 ⟨⟨q, rfl, hq⟩, hb⟩
  have X1 := Lib.hid (X0.out.next hb)
  clear hb hq
  cases q with
  | false =>
    go_wp2_with fail
    refine (live_any _).mono ?_
    rintro e w2 ⟨rfl, hb⟩
    have X2 := Lib.hid (X1.out.next hb)
    clear hb
    go_wp2
    go_ret
    exact ⟨rfl, X2.out.be⟩
  | true =>
    obtain ⟨x0, x1, x2, x3, x4, x5, x6, x7, x8, x9, x10⟩ := X1.out.cells
    go_wp2_with fail
    refine (Encode_l a _ _ (IA.out _ X1.out.be)).mono ?_
    rintro e w2 ⟨S, c, rfl, hS, hc, hb⟩
    have X2 := Lib.hid (X1.out.next hb)
    have HS := Lib.hid hS
    have HC := Lib.hid hc
    clear hb hS hc x0 x1 x2 x3 x4 x5 x6 x7 x8 x9 x10
    obtain ⟨x0, x1, x2, x3, x4, x5, x6, x7, x8, x9, x10⟩ := X2.out.cells
    go_wp2_with fail
    refine (rEncode_l a _ _ (IA.out _ X2.out.be)).mono ?_
    rintro e w3 ⟨S', c', rfl, hS', hc', hb⟩
    have X3 := Lib.hid (X2.out.next hb)
    obtain rfl : S' = S := by rw [bA_sub hS', bA_sub HS.out]
    obtain rfl : c' = c := hc'.trans HC.out.symm
    clear hb hS' hc' HS HC x0 x1 x2 x3 x4 x5 x6 x7 x8 x9 x10
    obtain ⟨dm, hdm⟩ : ∃ d, d = decide (AnOk a) := ⟨_, rfl⟩
    have M1 := Lib.hid (fun u (hu : Below w.heap.size w u) => hdm ▸ May_any a _ u (IA.out u hu))
    have M2 := Lib.hid (fun u (hu : Below w.heap.size w u) => hdm ▸ rMay_any a _ u (IA.out u hu))
    clear hdm
    go_wp2_with fail
    go_region_held3 (fun w' => w'.cell? ⟨w.heap.size, 0, none⟩ = some (.int .i64 a.kind) ∧ w'.cell? ⟨w.heap.size, 1, none⟩ = some (.int .i64 a.code) ∧ w'.cell? ⟨w.heap.size, 2, none⟩ = some (.slice A a.told.length ca) ∧ w'.cell? ⟨w.heap.size, 3, none⟩ = some (.int .i64 a.ver) ∧ w'.cell? ⟨w.heap.size, 4, none⟩ = some (.int .i64 a.pk) ∧ w'.cell? ⟨w.heap.size, 5, none⟩ = some (.int .i64 a.pl) ∧ w'.cell? ⟨w.heap.size, 6, none⟩ = some (.int .i64 a.pw) ∧ w'.cell? ⟨w.heap.size, 7, none⟩ = some (.int .i64 a.pb) ∧ w'.cell? ⟨w.heap.size, 8, none⟩ = some (.int .i64 a.now) ∧ w'.cell? ⟨w.heap.size, 9, none⟩ = some (.int .i64 a.count) ∧ w'.cell? ⟨w.heap.size, 10, none⟩ = some (.slice N a.names.length cn)) (first | (with_reducible exact BW.cells X3.out) | (with_reducible exact BW.cells X3.out.drew) | (with_reducible exact BW.cells X4.out) | (with_reducible exact BW.cells X5.out) | (with_reducible exact BW.cells X6.out) | go_keep) (first | (go_at_call 23; (with_reducible refine (M1.out _ X3.out.drew.be).mono ?_); rintro e w4 ⟨rfl, hb⟩; have X4 := Lib.hid (X3.out.drew.next hb); clear hb) | (go_at_call 24; (with_reducible refine (M2.out _ X4.out.be).mono ?_); rintro e w5 ⟨rfl, hb⟩; have X5 := Lib.hid (X4.out.next hb); clear hb) | (go_at_call 20; (with_reducible refine (live_any _).mono ?_); rintro e w6 ⟨rfl, hb⟩; have X6 := Lib.hid (X5.out.next hb); clear hb))
    all_goals
      go_wp2
      go_ret
      exact ⟨rfl, X6.out.be⟩

theorem own : ownKnob Try.prog.godebug = none := by kernel_rfl
theorem laidOut : laidOutB Try.prog = true := by kernel_rfl
set_option maxRecDepth 100000 in
theorem contract (H : Type) (enc : TypeId × Value → H) (W : World) (base : Nat) (args : Array Value) (ds gs : List (DataW H)) (before : List MemPlace)
    (hval : ∀ (j : Nat) t v, Try.f8.params[j]? = some t → args[j]? = some v → Value.okWide Try.prog W .any base t v)
    (hW : DataW.Whole enc Try.prog Try.f8.params.toList Rows.answerWritesSpec.vars false W args.toList ds gs before) :
    Calls Try.prog 8 args W fun e W' => ∃ v, e = .returned v ∧ Rows.answerWritesSpec.post enc Try.prog Try.f8 false true false false W args v W' := by
  have hW' := hW
  obtain ⟨p, q, hA0, hV, rfl, hfz, hnd⟩ := hW
  have hA : DataW.TrodAll enc Try.prog W 0 (fun _ => true) true Try.f8.params.toList args.toList ds p := hA0
  rw [Try.params8] at hA hval
  obtain ⟨v0, vs0, d0, ds0, p0, q0, hargs, rfl, rfl, h0, r0⟩ := trodAll_cons hA
  obtain ⟨rfl, rfl, rfl⟩ := trodAll_nil r0
  obtain rfl : args = #[v0] := by cases args; simp_all
  obtain ⟨rfl, rfl⟩ := trodVars_none hV
  have k0 := h0
  have lt0 : ∀ x ∈ p0, x.block < W.heap.size := by obtain ⟨m, hm⟩ := k0; exact DataW.trod_lt m _ _ _ hm
  obtain ⟨a0, w0⟩ := open_an (hval 0 43 v0 rfl rfl) h0
  clear hA0
  refine (walk a0 v0 w0).mono fun e W' ⟨he, bel⟩ => ?_
  subst he
  exact ⟨_, rfl, _, _, _, [], _, [], hW', trodAll_mk1 (shut_bool Try.underlying4 _), (trodAll_cons_mk (Below.trod laidOut (by kernel_rfl) (of_decide_eq_true (by kernel_rfl)) k0 bel lt0) trodAll_mk0), rfl, bel.frame _, fun h => by cases h⟩

set_option maxRecDepth 100000 in
theorem lifted (os : Os) (started : os.Started) (H : Type) (enc : TypeId × Value → H) :
    ReturnsInHanded {} Try.checked os 8 .any (Rows.answerWritesSpec.pre6 enc Try.prog Try.f8 Rows.answerWritesRow.domain false) (Rows.answerWritesSpec.post enc Try.prog Try.f8 false true false false) := by
  refine returnsInHanded_of_change (C := Try.checked) own started (by kernel_rfl) Try.func8
    (ChangeSpec.witness6 (enc := enc) (C := Try.checked) false ⟨#[], #[.agg #[.int .i64 0, .int .i64 0, .slice none 0 0, .int .i64 0, .int .i64 0, .int .i64 0, .int .i64 0, .int .i64 0, .int .i64 0, .int .i64 0, .slice none 0 0]], []⟩ 8 (by kernel_rfl) (by kernel_rfl) (by kernel_rfl) (by kernel_rfl)) ?_
  intro W base args ds gs before hval hW _ _
  exact contract H enc W base args ds gs before hval hW

theorem over : Rows.answerWritesRow.holds Try.pinned (OpenSpec.ofChange Rows.answerWritesSpec) :=
  OpenClaim.holds_of_wide 8 Try.f8 rfl rfl rfl rfl rfl rfl rfl ⟨rfl, rfl, rfl, rfl, rfl⟩ rfl rfl rfl rfl rfl (by kernel_rfl) Try.func8 (by kernel_rfl)
    (of_decide_eq_true (by kernel_rfl)) (by unfold Func.isWrapper; first | (rw [if_pos (by decide +kernel)]; kernel_rfl) | (rw [if_neg (by decide +kernel)]; exact ⟨rfl, rfl⟩))
    (fun os started H enc _ => lifted os started H enc)
end Go.Proofs.Ytljllfopgpmekab.answerWrites
namespace Go.Proofs.Ytljllfopgpmekab
theorem answerWrites_proved : Rows.AnswerWritesSaid := answerWrites.over
end Go.Proofs.Ytljllfopgpmekab

