/- For any two answers the law AnswerApart returns true: they have the same bytes just where they are the same (of more than 40 things or keys of more than 300 bytes only the examples are asked). No condition. -/
import Derived.Test.YtljllfopgpmekacRows
import Derived.Test.YtljllfopgpmekacSa5
import Derived.Test.YtljllfopgpmekacAnOpen
namespace Go.Proofs.Ytljllfopgpmekac.answerApart
open Go.ChangeShapes Go.WideShapes Go.ChangeAt Go.RowKit
open Go.ChangeMaps (open_string shut_string)
set_option linter.unusedVariables false

theorem cells2 {a b : An} {A N A' N' : Option Addr} {ca cn ca' cn' : Nat} {w w1 : World} (h : SW [.int .i64 a.kind, .int .i64 a.code, .slice A a.told.length ca, .int .i64 a.ver, .int .i64 a.pk, .int .i64 a.pl, .int .i64 a.pw, .int .i64 a.pb, .int .i64 a.now, .int .i64 a.count, .slice N a.names.length cn] [.int .i64 b.kind, .int .i64 b.code, .slice A' b.told.length ca', .int .i64 b.ver, .int .i64 b.pk, .int .i64 b.pl, .int .i64 b.pw, .int .i64 b.pb, .int .i64 b.now, .int .i64 b.count, .slice N' b.names.length cn'] 28 w w1) : (w1.cell? ⟨w.heap.size, 0, none⟩ = some (.int .i64 a.kind) ∧ w1.cell? ⟨w.heap.size, 1, none⟩ = some (.int .i64 a.code) ∧ w1.cell? ⟨w.heap.size, 2, none⟩ = some (.slice A a.told.length ca) ∧ w1.cell? ⟨w.heap.size, 3, none⟩ = some (.int .i64 a.ver) ∧ w1.cell? ⟨w.heap.size, 4, none⟩ = some (.int .i64 a.pk) ∧ w1.cell? ⟨w.heap.size, 5, none⟩ = some (.int .i64 a.pl) ∧ w1.cell? ⟨w.heap.size, 6, none⟩ = some (.int .i64 a.pw) ∧ w1.cell? ⟨w.heap.size, 7, none⟩ = some (.int .i64 a.pb) ∧ w1.cell? ⟨w.heap.size, 8, none⟩ = some (.int .i64 a.now) ∧ w1.cell? ⟨w.heap.size, 9, none⟩ = some (.int .i64 a.count) ∧ w1.cell? ⟨w.heap.size, 10, none⟩ = some (.slice N a.names.length cn)) ∧ w1.cell? ⟨w.heap.size + 1, 0, none⟩ = some (.int .i64 b.kind) ∧ w1.cell? ⟨w.heap.size + 1, 1, none⟩ = some (.int .i64 b.code) ∧ w1.cell? ⟨w.heap.size + 1, 2, none⟩ = some (.slice A' b.told.length ca') ∧ w1.cell? ⟨w.heap.size + 1, 3, none⟩ = some (.int .i64 b.ver) ∧ w1.cell? ⟨w.heap.size + 1, 4, none⟩ = some (.int .i64 b.pk) ∧ w1.cell? ⟨w.heap.size + 1, 5, none⟩ = some (.int .i64 b.pl) ∧ w1.cell? ⟨w.heap.size + 1, 6, none⟩ = some (.int .i64 b.pw) ∧ w1.cell? ⟨w.heap.size + 1, 7, none⟩ = some (.int .i64 b.pb) ∧ w1.cell? ⟨w.heap.size + 1, 8, none⟩ = some (.int .i64 b.now) ∧ w1.cell? ⟨w.heap.size + 1, 9, none⟩ = some (.int .i64 b.count) ∧ w1.cell? ⟨w.heap.size + 1, 10, none⟩ = some (.slice N' b.names.length cn') :=
  ⟨⟨h.x.cell 0, h.x.cell 1, h.x.cell 2, h.x.cell 3, h.x.cell 4, h.x.cell 5, h.x.cell 6, h.x.cell 7, h.x.cell 8, h.x.cell 9, h.x.cell 10⟩, h.y.cell 0, h.y.cell 1, h.y.cell 2, h.y.cell 3, h.y.cell 4, h.y.cell 5, h.y.cell 6, h.y.cell 7, h.y.cell 8, h.y.cell 9, h.y.cell 10⟩
theorem SW.next {C D : List Value} {T : TypeId} {w w1 w2 : World} (h : SW C D T w w1) (hb : Below w1.heap.size w1 w2) : SW C D T w w2 := ⟨h.x.below hb h.x.lt, h.y.below hb h.y.lt, h.be.trans (hb.mono h.be.size)⟩
theorem encC_ways (a : An) : (encC a = 0 ∧ AnOk a ∧ encT a = anB a) ∨ (encC a != 0) = true := by
  by_cases h : AnOk a
  · by_cases h5 : (anB a).length ≤ 512
    · exact .inl ⟨(enc_yes h h5).2, h, (enc_yes h h5).1⟩
    · right; rw [(enc_big h h5).2]; decide
  · right; rw [(enc_bad h).2]; decide
set_option maxRecDepth 100000 in
set_option maxHeartbeats 2000000 in
theorem walk (a : An) (v : Value) (b : An) (v' : Value) {w : World} (ha : IsAn w v a) (hb : IsAn w v' b) :
    Calls Try.prog 4 #[v, v'] w fun e w' => e = .returned (.bool true) ∧ Below w.heap.size w w' := by
  obtain ⟨A, ca, N, cn, rfl, ha⟩ := ha
  obtain ⟨A', ca', N', cn', rfl, hb⟩ := hb
  have IA := Lib.hid (fun u (hu : Below w.heap.size w u) => ha.old hu)
  have IB := Lib.hid (fun u (hu : Below w.heap.size w u) => hb.old hu)
  have X0 := Lib.hid (SW.made (anC a A ca N cn) (anC b A' ca' N' cn') 28 w)
  unfold anC at X0 ⊢
  clear ha hb
  go_enter Try.func4, Try.ntmps4
  go_wp2_with fail
  refine (Short_any a _ _ (IA.out _ X0.out.be)).mono ?_
  rintro e w1 ⟨⟨q, rfl, hq⟩, hb⟩
  have X1 := Lib.hid (SW.next X0.out hb)
  clear hb hq
  cases q with
  | false =>
    go_wp2_with fail
    refine (live_any _).mono ?_
    rintro e w2 ⟨rfl, hb⟩
    have X2 := Lib.hid (SW.next X1.out hb)
    clear hb
    go_wp2
    go_ret
    exact ⟨rfl, X2.out.be⟩
  | true =>
    obtain ⟨⟨x0, x1, x2, x3, x4, x5, x6, x7, x8, x9, x10⟩, y0, y1, y2, y3, y4, y5, y6, y7, y8, y9, y10⟩ := cells2 X1.out
    go_wp2_with fail
    refine (Short_any b _ _ (IB.out _ X1.out.be)).mono ?_
    rintro e w2 ⟨⟨q, rfl, hq⟩, hb⟩
    have X2 := Lib.hid (SW.next X1.out hb)
    clear hb hq x0 x1 x2 x3 x4 x5 x6 x7 x8 x9 x10 y0 y1 y2 y3 y4 y5 y6 y7 y8 y9 y10
    cases q with
    | false =>
      go_wp2_with fail
      refine (live_any _).mono ?_
      rintro e w2 ⟨rfl, hb⟩
      have X3 := Lib.hid (SW.next X2.out hb)
      clear hb
      go_wp2
      go_ret
      exact ⟨rfl, X3.out.be⟩
    | true =>
      obtain ⟨⟨x0, x1, x2, x3, x4, x5, x6, x7, x8, x9, x10⟩, y0, y1, y2, y3, y4, y5, y6, y7, y8, y9, y10⟩ := cells2 X2.out
      go_wp2_with fail
      refine (Encode_l a _ _ (IA.out _ X2.out.be)).mono ?_
      rintro e w3 ⟨S, c, rfl, hS, hc, hb⟩
      have X3 := Lib.hid (SW.next X2.out hb)
      clear hb x0 x1 x2 x3 x4 x5 x6 x7 x8 x9 x10 y0 y1 y2 y3 y4 y5 y6 y7 y8 y9 y10
      obtain ⟨⟨x0, x1, x2, x3, x4, x5, x6, x7, x8, x9, x10⟩, y0, y1, y2, y3, y4, y5, y6, y7, y8, y9, y10⟩ := cells2 X3.out
      have HS := Lib.hid hS
      have HC := Lib.hid hc
      clear hS hc
      go_wp2_with fail
      refine (Encode_l b _ _ (IB.out _ X3.out.be)).mono ?_
      rintro e w4 ⟨S', c', rfl, hS', hc', hb⟩
      have X4 := Lib.hid (SW.next X3.out hb)
      clear hb x0 x1 x2 x3 x4 x5 x6 x7 x8 x9 x10 y0 y1 y2 y3 y4 y5 y6 y7 y8 y9 y10
      have HS' := Lib.hid hS'
      have HC' := Lib.hid hc'
      clear hS' hc'
      rcases encC_ways a with ⟨h0, ok, h1⟩ | h0
      · rcases encC_ways b with ⟨h0', ok', h1'⟩ | h0'
        · obtain rfl : c = 0 := HC.out.trans h0
          obtain rfl : c' = 0 := HC'.out.trans h0'
          have ST := Lib.hid (show S = S' ↔ a = b by
            constructor
            · intro e
              have h2 := HS.out
              rw [e, HS'.out, h1', h1] at h2
              exact (anB_apart ok ok' [] [] (by rw [h2])).1
            · intro e
              subst e
              rw [bA_sub HS.out, bA_sub HS'.out])
          clear h0 h0' h1 h1' ok ok' HC HC'
          obtain ⟨⟨x0, x1, x2, x3, x4, x5, x6, x7, x8, x9, x10⟩, y0, y1, y2, y3, y4, y5, y6, y7, y8, y9, y10⟩ := cells2 X4.out
          by_cases hss : S = S'
          · have hab := Lib.hid (ST.out.1 hss)
            subst hss
            go_wp2_with fail
            refine (rsame_any a b _ _ _ (IA.out _ X4.out.be) (IB.out _ X4.out.be)).mono ?_
            rintro e w5 ⟨⟨q, rfl, hq⟩, hb⟩
            obtain rfl : q = true := hq.2 hab.out
            have X5 := Lib.hid (SW.next X4.out hb)
            clear hb hq x0 x1 x2 x3 x4 x5 x6 x7 x8 x9 x10 y0 y1 y2 y3 y4 y5 y6 y7 y8 y9 y10
            go_wp2_with fail
            refine (live_any _).mono ?_
            rintro e w6 ⟨rfl, hb⟩
            have X6 := Lib.hid (SW.next X5.out hb)
            clear hb
            go_wp2
            go_ret
            exact ⟨rfl, X6.out.be⟩
          · have hab := Lib.hid (fun e => hss (ST.out.2 e))
            have hne := byt_ne hss
            clear hss
            go_wp2_with fail
            refine (rsame_any a b _ _ _ (IA.out _ X4.out.be) (IB.out _ X4.out.be)).mono ?_
            rintro e w5 ⟨⟨q, rfl, hq⟩, hb⟩
            obtain rfl : q = false := by cases q with | true => exact absurd (hq.1 rfl) hab.out | false => rfl
            have X5 := Lib.hid (SW.next X4.out hb)
            clear hb hq x0 x1 x2 x3 x4 x5 x6 x7 x8 x9 x10 y0 y1 y2 y3 y4 y5 y6 y7 y8 y9 y10
            go_wp2_with fail
            refine (live_any _).mono ?_
            rintro e w6 ⟨rfl, hb⟩
            have X6 := Lib.hid (SW.next X5.out hb)
            clear hb
            go_wp2
            go_ret
            exact ⟨rfl, X6.out.be⟩
        · obtain rfl : c = 0 := HC.out.trans h0
          have hcn : (c' != 0) = true := by rw [HC'.out]; exact h0'
          clear h0 h0'
          go_wp2_with fail
          refine (live_any _).mono ?_
          rintro e w6 ⟨rfl, hb⟩
          have X6 := Lib.hid (SW.next X4.out hb)
          clear hb
          go_wp2
          go_ret
          exact ⟨rfl, X6.out.be⟩
      · have hcn : (c != 0) = true := by rw [HC.out]; exact h0
        clear h0
        go_wp2_with fail
        refine (live_any _).mono ?_
        rintro e w6 ⟨rfl, hb⟩
        have X6 := Lib.hid (SW.next X4.out hb)
        clear hb
        go_wp2
        go_ret
        exact ⟨rfl, X6.out.be⟩

theorem own : ownKnob Try.prog.godebug = none := by kernel_rfl
theorem laidOut : laidOutB Try.prog = true := by kernel_rfl
theorem contract (H : Type) (enc : TypeId × Value → H) (W : World) (base : Nat) (args : Array Value) (ds gs : List (DataW H)) (before : List MemPlace)
    (hval : ∀ (j : Nat) t v, Try.f4.params[j]? = some t → args[j]? = some v → Value.okWide Try.prog W .any base t v)
    (hW : DataW.Whole enc Try.prog Try.f4.params.toList Rows.answerApartSpec.vars false W args.toList ds gs before) :
    Calls Try.prog 4 args W fun e W' => ∃ v, e = .returned v ∧ Rows.answerApartSpec.post enc Try.prog Try.f4 false true false false W args v W' := by
  have hW' := hW
  obtain ⟨p, q, hA0, hV, rfl, hfz, hnd⟩ := hW
  have hA : DataW.TrodAll enc Try.prog W 0 (fun _ => true) true Try.f4.params.toList args.toList ds p := hA0
  rw [Try.params4] at hA hval
  obtain ⟨v0, vs0, d0, ds0, p0, q0, hargs, rfl, rfl, h0, r0⟩ := trodAll_cons hA
  obtain ⟨v1, vs1, d1, ds1, p1, q1, rfl, rfl, rfl, h1, r1⟩ := trodAll_cons r0
  obtain ⟨rfl, rfl, rfl⟩ := trodAll_nil r1
  obtain rfl : args = #[v0, v1] := by cases args; simp_all
  obtain ⟨rfl, rfl⟩ := trodVars_none hV
  have k0 := h0
  have lt0 : ∀ x ∈ p0, x.block < W.heap.size := by obtain ⟨m, hm⟩ := k0; exact DataW.trod_lt m _ _ _ hm
  obtain ⟨a0, w0⟩ := open_an (hval 0 28 v0 rfl rfl) h0
  have k1 := h1
  have lt1 : ∀ x ∈ p1, x.block < W.heap.size := by obtain ⟨m, hm⟩ := k1; exact DataW.trod_lt m _ _ _ hm
  obtain ⟨a1, w1⟩ := open_an (hval 1 28 v1 rfl rfl) h1
  clear hA0
  refine (walk a0 v0 a1 v1 w0 w1).mono fun e W' ⟨he, bel⟩ => ?_
  subst he
  exact ⟨_, rfl, _, _, _, [], _, [], hW', trodAll_mk1 (shut_bool Try.underlying4 _), (trodAll_cons_mk (Below.trod laidOut (by kernel_rfl) (of_decide_eq_true (by kernel_rfl)) k0 bel lt0) (trodAll_cons_mk (Below.trod laidOut (by kernel_rfl) (of_decide_eq_true (by kernel_rfl)) k1 bel lt1) trodAll_mk0)), rfl, bel.frame _, fun h => by cases h⟩

set_option maxRecDepth 100000 in
theorem lifted (os : Os) (started : os.Started) (H : Type) (enc : TypeId × Value → H) :
    ReturnsInHanded {} Try.checked os 4 .any (Rows.answerApartSpec.pre6 enc Try.prog Try.f4 Rows.answerApartRow.domain false) (Rows.answerApartSpec.post enc Try.prog Try.f4 false true false false) := by
  refine returnsInHanded_of_change (C := Try.checked) own started (by kernel_rfl) Try.func4
    (ChangeSpec.witness6 (enc := enc) (C := Try.checked) false ⟨#[], #[.agg #[.int .i64 0, .int .i64 0, .slice none 0 0, .int .i64 0, .int .i64 0, .int .i64 0, .int .i64 0, .int .i64 0, .int .i64 0, .int .i64 0, .slice none 0 0], .agg #[.int .i64 0, .int .i64 0, .slice none 0 0, .int .i64 0, .int .i64 0, .int .i64 0, .int .i64 0, .int .i64 0, .int .i64 0, .int .i64 0, .slice none 0 0]], []⟩ 8 (by kernel_rfl) (by kernel_rfl) (by kernel_rfl) (by kernel_rfl)) ?_
  intro W base args ds gs before hval hW _ _
  exact contract H enc W base args ds gs before hval hW

theorem over : Rows.answerApartRow.holds Try.pinned (OpenSpec.ofChange Rows.answerApartSpec) :=
  OpenClaim.holds_of_wide 4 Try.f4 rfl rfl rfl rfl rfl rfl rfl ⟨rfl, rfl, rfl, rfl, rfl⟩ rfl rfl rfl rfl rfl (by kernel_rfl) Try.func4 (by kernel_rfl)
    (of_decide_eq_true (by kernel_rfl)) (by unfold Func.isWrapper; first | (rw [if_pos (by decide +kernel)]; kernel_rfl) | (rw [if_neg (by decide +kernel)]; exact ⟨rfl, rfl⟩))
    (fun os started H enc _ => lifted os started H enc)
end Go.Proofs.Ytljllfopgpmekac.answerApart
namespace Go.Proofs.Ytljllfopgpmekac
theorem answerApart_proved : Rows.AnswerApartSaid := answerApart.over
end Go.Proofs.Ytljllfopgpmekac

