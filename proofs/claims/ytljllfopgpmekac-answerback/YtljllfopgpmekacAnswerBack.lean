/- For any answer, bytes and place the law AnswerBack returns true: what is written is read, what is read is written, and bytes that are cut short or have more behind them are no answer's (of more than 40 things, keys of more than 300 bytes or more than 1000 bytes only the examples are asked). No condition. -/
import Derived.Test.YtljllfopgpmekacRows
import Derived.Test.YtljllfopgpmekacSa5
import Derived.Test.YtljllfopgpmekacAnOpen
namespace Go.Proofs.Ytljllfopgpmekac.answerBack
open Go.ChangeShapes Go.WideShapes Go.ChangeAt Go.RowKit
open Go.ChangeMaps (open_string shut_string)
set_option linter.unusedVariables false

theorem cutS (T : ByteArray) (k : Nat) (hk : k ≤ T.size) (hm : T.size ≤ maxLen) (u : World) : (Instr.slice 9 (.string T) none (some (.int .i64 (k : Int))) none).run Try.prog u = .ok (.string (T.extract 0 k)) u := by
  unfold maxLen at hm
  go_simp
/-- The answer's block, and that of what was read. -/
structure BX (C D : List Value) (g : Nat) (w w1 : World) : Prop where
  x : Has w1 w.heap.size 28 C
  y : Has w1 g 28 D
  be : Below w.heap.size w w1
theorem BX.next {C D : List Value} {g : Nat} {w w1 w2 : World} (h : BX C D g w w1) (hb : Below w1.heap.size w1 w2) : BX C D g w w2 := ⟨h.x.below hb h.x.lt, h.y.below hb h.y.lt, h.be.trans (hb.mono h.be.size)⟩
theorem bcells {a b : An} {A N A' N' : Option Addr} {ca cn ca' cn' g : Nat} {w w1 : World} (h : BX [.int .i64 a.kind, .int .i64 a.code, .slice A a.told.length ca, .int .i64 a.ver, .int .i64 a.pk, .int .i64 a.pl, .int .i64 a.pw, .int .i64 a.pb, .int .i64 a.now, .int .i64 a.count, .slice N a.names.length cn] [.int .i64 b.kind, .int .i64 b.code, .slice A' b.told.length ca', .int .i64 b.ver, .int .i64 b.pk, .int .i64 b.pl, .int .i64 b.pw, .int .i64 b.pb, .int .i64 b.now, .int .i64 b.count, .slice N' b.names.length cn'] g w w1) : (w1.cell? ⟨w.heap.size, 0, none⟩ = some (.int .i64 a.kind) ∧ w1.cell? ⟨w.heap.size, 1, none⟩ = some (.int .i64 a.code) ∧ w1.cell? ⟨w.heap.size, 2, none⟩ = some (.slice A a.told.length ca) ∧ w1.cell? ⟨w.heap.size, 3, none⟩ = some (.int .i64 a.ver) ∧ w1.cell? ⟨w.heap.size, 4, none⟩ = some (.int .i64 a.pk) ∧ w1.cell? ⟨w.heap.size, 5, none⟩ = some (.int .i64 a.pl) ∧ w1.cell? ⟨w.heap.size, 6, none⟩ = some (.int .i64 a.pw) ∧ w1.cell? ⟨w.heap.size, 7, none⟩ = some (.int .i64 a.pb) ∧ w1.cell? ⟨w.heap.size, 8, none⟩ = some (.int .i64 a.now) ∧ w1.cell? ⟨w.heap.size, 9, none⟩ = some (.int .i64 a.count) ∧ w1.cell? ⟨w.heap.size, 10, none⟩ = some (.slice N a.names.length cn)) ∧ w1.cell? ⟨g, 0, none⟩ = some (.int .i64 b.kind) ∧ w1.cell? ⟨g, 1, none⟩ = some (.int .i64 b.code) ∧ w1.cell? ⟨g, 2, none⟩ = some (.slice A' b.told.length ca') ∧ w1.cell? ⟨g, 3, none⟩ = some (.int .i64 b.ver) ∧ w1.cell? ⟨g, 4, none⟩ = some (.int .i64 b.pk) ∧ w1.cell? ⟨g, 5, none⟩ = some (.int .i64 b.pl) ∧ w1.cell? ⟨g, 6, none⟩ = some (.int .i64 b.pw) ∧ w1.cell? ⟨g, 7, none⟩ = some (.int .i64 b.pb) ∧ w1.cell? ⟨g, 8, none⟩ = some (.int .i64 b.now) ∧ w1.cell? ⟨g, 9, none⟩ = some (.int .i64 b.count) ∧ w1.cell? ⟨g, 10, none⟩ = some (.slice N' b.names.length cn') :=
  ⟨⟨h.x.cell 0, h.x.cell 1, h.x.cell 2, h.x.cell 3, h.x.cell 4, h.x.cell 5, h.x.cell 6, h.x.cell 7, h.x.cell 8, h.x.cell 9, h.x.cell 10⟩, h.y.cell 0, h.y.cell 1, h.y.cell 2, h.y.cell 3, h.y.cell 4, h.y.cell 5, h.y.cell 6, h.y.cell 7, h.y.cell 8, h.y.cell 9, h.y.cell 10⟩
set_option maxRecDepth 100000 in
set_option maxHeartbeats 8000000 in
theorem walk (a : An) (v : Value) (s : ByteArray) (cut : Int) {w : World} (ha : IsAn w v a) (hs1 : s.size ≤ maxLen) (hcw : (Lit.int .i64 cut).wf = true) :
    Calls Try.prog 3 #[v, .string s, .int .i64 cut] w fun e w' => e = .returned (.bool true) ∧ Below w.heap.size w w' := by
  obtain ⟨A, ca, N, cn, rfl, ha⟩ := ha
  have IA := Lib.hid (fun u (hu : Below w.heap.size w u) => ha.old hu)
  have X0 := Lib.hid (BW.made (anC a A ca N cn) w)
  unfold anC at X0 ⊢
  clear ha hcw
  go_enter Try.func3, Try.ntmps3
  go_wp2_with fail
  refine (Short_any a _ _ (IA.out _ X0.out.be)).mono ?_
  rintro e w1 ⟨⟨q, rfl, hq⟩, hb⟩
  have X1 := Lib.hid (X0.out.next hb)
  clear hb hq
  cases q with
  | false =>
    go_wp2_with fail
    refine (live_any _).mono ?_
    rintro e wl ⟨rfl, hb⟩
    have XL := Lib.hid (X1.out.next hb)
    clear hb
    go_wp2
    go_ret
    exact ⟨rfl, XL.out.be⟩
  | true =>
    by_cases hsz : 1000 < s.size
    · have hs2 : s.size ≤ maxLen := hs1
      unfold maxLen at hs2
      go_wp2_with fail
      refine (live_any _).mono ?_
      rintro e wl ⟨rfl, hb⟩
      have XL := Lib.hid (X1.out.next hb)
      clear hb
      go_wp2
      go_ret
      exact ⟨rfl, XL.out.be⟩
    · obtain ⟨x0, x1, x2, x3, x4, x5, x6, x7, x8, x9, x10⟩ := X1.out.cells
      go_wp2_with fail
      refine (Encode_l a _ _ (IA.out _ X1.out.be)).mono ?_
      rintro e w2 ⟨T, c, rfl, hT, hc, hb⟩
      have X2 := Lib.hid (X1.out.next hb)
      clear hb x0 x1 x2 x3 x4 x5 x6 x7 x8 x9 x10
      by_cases ok : AnOk a
      · by_cases h5 : (anB a).length ≤ 512
        · obtain rfl : c = 0 := hc.trans (enc_yes ok h5).2
          rw [(enc_yes ok h5).1] at hT
          have TL := Lib.hid hT
          have OK := Lib.hid ok
          have tsz : T.size ≤ 512 := by rw [bA_sub hT, bA_size]; exact h5
          have DB := Lib.hid (dec_back ok h5)
          clear hT hc ok h5
          go_wp2_with fail
          refine (Decode_l T (by unfold maxLen; omega) _).mono ?_
          rintro e w3 ⟨v3, c3, b, rfl, hc3, hb3, hv3, hb⟩
          rw [TL.out, DB.out.2] at hc3
          rw [TL.out, DB.out.1] at hb3
          subst hc3
          have AB := Lib.hid hb3
          clear hb3
          obtain ⟨A', ca', N', cn', rfl, hx3⟩ := hv3
          have X3 := Lib.hid (X2.out.next hb)
          have X4 := Lib.hid (show BX (anC a A ca N cn) (anC b A' ca' N' cn') w3.heap.size w (w3.alloc (.cells (anC b A' ca' N' cn').toArray 28)) from ⟨X3.out.x.alloc _, Has.made _ _ _, X3.out.be.alloc X3.out.be.size _⟩)
          have IB := Lib.hid (hx3.old ((Below.refl w3.heap.size w3).alloc (Nat.le_refl _) (.cells (anC b A' ca' N' cn').toArray 28)))
          clear hb hx3
          unfold anC at X4 IB ⊢
          obtain ⟨W4, hW4⟩ : ∃ W4, W4 = w3.alloc (.cells #[.int .i64 b.kind, .int .i64 b.code, .slice A' b.told.length ca', .int .i64 b.ver, .int .i64 b.pk, .int .i64 b.pl, .int .i64 b.pw, .int .i64 b.pb, .int .i64 b.now, .int .i64 b.count, .slice N' b.names.length cn'] 28) := ⟨_, rfl⟩
          rw [← hW4] at IB
          have X5 := Lib.hid (show BX [.int .i64 a.kind, .int .i64 a.code, .slice A a.told.length ca, .int .i64 a.ver, .int .i64 a.pk, .int .i64 a.pl, .int .i64 a.pw, .int .i64 a.pb, .int .i64 a.now, .int .i64 a.count, .slice N a.names.length cn] [.int .i64 b.kind, .int .i64 b.code, .slice A' b.told.length ca', .int .i64 b.ver, .int .i64 b.pk, .int .i64 b.pl, .int .i64 b.pw, .int .i64 b.pb, .int .i64 b.now, .int .i64 b.count, .slice N' b.names.length cn'] w3.heap.size w W4 by rw [hW4]; exact X4.out)
          have hW := hW4.symm
          clear X4 hW4
          obtain ⟨⟨x0, x1, x2, x3, x4, x5, x6, x7, x8, x9, x10⟩, y0, y1, y2, y3, y4, y5, y6, y7, y8, y9, y10⟩ := bcells X5.out
          go_wp2_with fail
          refine (rsame_any a b _ _ W4 (IA.out _ X5.out.be) IB.out).mono ?_
          rintro e w4 ⟨⟨q, rfl, hq⟩, hb⟩
          obtain rfl : q = true := hq.2 AB.out.symm
          have X6 := Lib.hid (X5.out.next hb)
          clear hb hq hW x0 x1 x2 x3 x4 x5 x6 x7 x8 x9 x10 y0 y1 y2 y3 y4 y5 y6 y7 y8 y9 y10
          obtain ⟨⟨x0, x1, x2, x3, x4, x5, x6, x7, x8, x9, x10⟩, y0, y1, y2, y3, y4, y5, y6, y7, y8, y9, y10⟩ := bcells X6.out
          go_wp2_with fail
          refine (May_any a _ _ (IA.out _ X6.out.be)).mono ?_
          rintro e w4b ⟨rfl, hb⟩
          rw [show decide (AnOk a) = true by simp [OK.out]]
          have X7 := Lib.hid (X6.out.next hb)
          clear hb x0 x1 x2 x3 x4 x5 x6 x7 x8 x9 x10 y0 y1 y2 y3 y4 y5 y6 y7 y8 y9 y10
          go_wp2_with fail
          refine (Decode_l s hs1 _).mono ?_
          rintro e w5 ⟨v5, f, o, rfl, hf, ho, hv, hb⟩
          rcases dec_iff s.data.toList with ⟨d0, d1, d2, d3⟩ | ⟨d0, _, _⟩
          · rw [d0] at hf
            rw [← ho] at d1 d2
            subst hf
            clear d0 ho
            have Y1 := Lib.hid (X7.out.next hb)
            have O1 := Lib.hid hv
            clear hb hv
            obtain ⟨A5, ca5, N5, cn5, rfl, hv5⟩ := O1.out
            have V5 := Lib.hid hv5
            have Y2 := Lib.hid (Y1.out.next ((Below.refl _ _).alloc (Nat.le_refl _) (.cells (anC o A5 ca5 N5 cn5).toArray 28)))
            clear hv5
            unfold anC at Y2 ⊢
            go_wp2_with fail
            refine (Encode_l o _ _ (V5.out.old ((Below.refl _ _).alloc (Nat.le_refl _) _))).mono ?_
            rintro e w6 ⟨U, cu, rfl, hU, hcu, hb⟩
            have Y3 := Lib.hid (Y2.out.next hb)
            clear hb
            obtain rfl : cu = 0 := hcu.trans (enc_yes d1 (by rw [d2]; exact d3)).2
            rw [(enc_yes d1 (by rw [d2]; exact d3)).1, d2] at hU
            obtain rfl : U = s := by
              have := bA_sub hU
              rw [bA_self] at this
              exact this
            clear hU hcu d1 d2 d3
            by_cases k0 : cut < 0
            · go_wp2_with fail
              refine (live_any _).mono ?_
              rintro e wl ⟨rfl, hb⟩
              have XL := Lib.hid (Y3.out.next hb)
              clear hb
              go_wp2
              go_ret
              exact ⟨rfl, XL.out.be⟩
            · by_cases k1 : (T.size : Int) ≤ cut
              · go_wp2_with fail
                refine (live_any _).mono ?_
                rintro e wl ⟨rfl, hb⟩
                have XL := Lib.hid (Y3.out.next hb)
                clear hb
                go_wp2
                go_ret
                exact ⟨rfl, XL.out.be⟩
              · obtain ⟨k, rfl⟩ : ∃ k : Nat, cut = (k : Int) := ⟨cut.toNat, by omega⟩
                have k2 : k < T.size := by omega
                have hcutT : ∀ u : World, (Instr.slice 9 (.string T) none (some (.int .i64 (k : Int))) none).run Try.prog u = .ok (.string (T.extract 0 k)) u := fun u => cutS T k (by omega) (by unfold maxLen; omega) u
                have E1 := Lib.hid (show decC (T.extract 0 k).data.toList = 3 by
                  have : (T.extract 0 k).data.toList = (anB a).take k := by rw [ByteArray.data_extract, ← TL.out]; simp
                  rw [this]
                  exact dec_cut OK.out k (by have := congrArg List.length TL.out; simp at this; omega))
                have Z1 := Lib.hid (show (T.extract 0 k).size ≤ maxLen by rw [ByteArray.size_extract]; unfold maxLen; omega)
                obtain ⟨T1, hT1⟩ : ∃ T1, T1 = T.extract 0 k := ⟨_, rfl⟩
                rw [← hT1] at hcutT E1 Z1
                clear hT1 k0 k1
                have k3 : ¬ (T.size : Int) ≤ (k : Int) := by omega
                go_wp2_with fail
                refine (Decode_l T1 Z1.out _).mono ?_
                rintro e w7 ⟨v7, c7, a7, rfl, hc7, ha7, hv7, hb⟩
                rw [E1.out] at hc7
                subst hc7
                clear ha7
                have P1 := Lib.hid (Y3.out.next hb)
                clear hb
                obtain ⟨A7, ca7, N7, cn7, rfl, hx7⟩ := hv7
                have P2 := Lib.hid (P1.out.next ((Below.refl _ _).alloc (Nat.le_refl _) (.cells (anC a7 A7 ca7 N7 cn7).toArray 28)))
                clear hx7
                unfold anC at P2 ⊢
                have E2 := Lib.hid (show decC (T ++ (⟨#[0]⟩ : ByteArray)).data.toList = 3 by
                  rw [ByteArray.data_append, Array.toList_append, TL.out]
                  exact dec_more OK.out _ (by simp))
                have Z2 := Lib.hid (show (T ++ (⟨#[0]⟩ : ByteArray)).size ≤ maxLen by rw [ByteArray.size_append, show (⟨#[0]⟩ : ByteArray).size = 1 from rfl]; unfold maxLen; omega)
                go_wp2_with fail
                obtain ⟨T2, hT2⟩ : ∃ T2, T2 = T ++ (⟨#[0]⟩ : ByteArray) := ⟨_, rfl⟩
                rw [← hT2] at E2 Z2 ⊢
                clear hT2
                refine (Decode_l T2 Z2.out _).mono ?_
                rintro e w8 ⟨v8, c8, a8, rfl, hc8, ha8, hv8, hb⟩
                rw [E2.out] at hc8
                subst hc8
                clear ha8
                have P3 := Lib.hid (P2.out.next hb)
                clear hb
                obtain ⟨A8, ca8, N8, cn8, rfl, hx8⟩ := hv8
                have P4 := Lib.hid (P3.out.next ((Below.refl _ _).alloc (Nat.le_refl _) (.cells (anC a8 A8 ca8 N8 cn8).toArray 28)))
                clear hx8
                unfold anC at P4 ⊢
                go_wp2_with fail
                refine (live_any _).mono ?_
                rintro e wl ⟨rfl, hb⟩
                have XL := Lib.hid (P4.out.next hb)
                clear hb
                go_wp2
                go_ret
                exact ⟨rfl, XL.out.be⟩
          · rw [d0] at hf
            subst hf
            clear d0 ho
            have Y1 := Lib.hid (X7.out.next hb)
            have O1 := Lib.hid hv
            clear hb hv
            obtain ⟨A5, ca5, N5, cn5, rfl, hv5⟩ := O1.out
            have V5 := Lib.hid hv5
            have Y2 := Lib.hid (Y1.out.next ((Below.refl _ _).alloc (Nat.le_refl _) (.cells (anC o A5 ca5 N5 cn5).toArray 28)))
            clear hv5
            unfold anC at Y2 ⊢
            go_wp2_with fail
            refine (Encode_l o _ _ (V5.out.old ((Below.refl _ _).alloc (Nat.le_refl _) _))).mono ?_
            rintro e w6 ⟨U, cu, rfl, hU, hcu, hb⟩
            have Y3 := Lib.hid (Y2.out.next hb)
            clear hb
            clear hU hcu
            by_cases k0 : cut < 0
            · go_wp2_with fail
              refine (live_any _).mono ?_
              rintro e wl ⟨rfl, hb⟩
              have XL := Lib.hid (Y3.out.next hb)
              clear hb
              go_wp2
              go_ret
              exact ⟨rfl, XL.out.be⟩
            · by_cases k1 : (T.size : Int) ≤ cut
              · go_wp2_with fail
                refine (live_any _).mono ?_
                rintro e wl ⟨rfl, hb⟩
                have XL := Lib.hid (Y3.out.next hb)
                clear hb
                go_wp2
                go_ret
                exact ⟨rfl, XL.out.be⟩
              · obtain ⟨k, rfl⟩ : ∃ k : Nat, cut = (k : Int) := ⟨cut.toNat, by omega⟩
                have k2 : k < T.size := by omega
                have hcutT : ∀ u : World, (Instr.slice 9 (.string T) none (some (.int .i64 (k : Int))) none).run Try.prog u = .ok (.string (T.extract 0 k)) u := fun u => cutS T k (by omega) (by unfold maxLen; omega) u
                have E1 := Lib.hid (show decC (T.extract 0 k).data.toList = 3 by
                  have : (T.extract 0 k).data.toList = (anB a).take k := by rw [ByteArray.data_extract, ← TL.out]; simp
                  rw [this]
                  exact dec_cut OK.out k (by have := congrArg List.length TL.out; simp at this; omega))
                have Z1 := Lib.hid (show (T.extract 0 k).size ≤ maxLen by rw [ByteArray.size_extract]; unfold maxLen; omega)
                obtain ⟨T1, hT1⟩ : ∃ T1, T1 = T.extract 0 k := ⟨_, rfl⟩
                rw [← hT1] at hcutT E1 Z1
                clear hT1 k0 k1
                have k3 : ¬ (T.size : Int) ≤ (k : Int) := by omega
                go_wp2_with fail
                refine (Decode_l T1 Z1.out _).mono ?_
                rintro e w7 ⟨v7, c7, a7, rfl, hc7, ha7, hv7, hb⟩
                rw [E1.out] at hc7
                subst hc7
                clear ha7
                have P1 := Lib.hid (Y3.out.next hb)
                clear hb
                obtain ⟨A7, ca7, N7, cn7, rfl, hx7⟩ := hv7
                have P2 := Lib.hid (P1.out.next ((Below.refl _ _).alloc (Nat.le_refl _) (.cells (anC a7 A7 ca7 N7 cn7).toArray 28)))
                clear hx7
                unfold anC at P2 ⊢
                have E2 := Lib.hid (show decC (T ++ (⟨#[0]⟩ : ByteArray)).data.toList = 3 by
                  rw [ByteArray.data_append, Array.toList_append, TL.out]
                  exact dec_more OK.out _ (by simp))
                have Z2 := Lib.hid (show (T ++ (⟨#[0]⟩ : ByteArray)).size ≤ maxLen by rw [ByteArray.size_append, show (⟨#[0]⟩ : ByteArray).size = 1 from rfl]; unfold maxLen; omega)
                go_wp2_with fail
                obtain ⟨T2, hT2⟩ : ∃ T2, T2 = T ++ (⟨#[0]⟩ : ByteArray) := ⟨_, rfl⟩
                rw [← hT2] at E2 Z2 ⊢
                clear hT2
                refine (Decode_l T2 Z2.out _).mono ?_
                rintro e w8 ⟨v8, c8, a8, rfl, hc8, ha8, hv8, hb⟩
                rw [E2.out] at hc8
                subst hc8
                clear ha8
                have P3 := Lib.hid (P2.out.next hb)
                clear hb
                obtain ⟨A8, ca8, N8, cn8, rfl, hx8⟩ := hv8
                have P4 := Lib.hid (P3.out.next ((Below.refl _ _).alloc (Nat.le_refl _) (.cells (anC a8 A8 ca8 N8 cn8).toArray 28)))
                clear hx8
                unfold anC at P4 ⊢
                go_wp2_with fail
                refine (live_any _).mono ?_
                rintro e wl ⟨rfl, hb⟩
                have XL := Lib.hid (P4.out.next hb)
                clear hb
                go_wp2
                go_ret
                exact ⟨rfl, XL.out.be⟩
        · obtain rfl : c = 8 := hc.trans (enc_big ok h5).2
          rw [(enc_big ok h5).1] at hT
          have TZ := Lib.hid (bA_sub hT)
          have DN := Lib.hid (show decC T.data.toList = 3 by rw [hT]; exact dec_none)
          have tsz : T.size ≤ 512 := by rw [bA_sub hT]; exact Nat.zero_le _
          clear hT hc ok h5
          go_wp2_with fail
          refine (Decode_l T (by unfold maxLen; omega) _).mono ?_
          rintro e w3 ⟨v3, c3, b, rfl, hc3, hb3, hv3, hb⟩
          rw [DN.out] at hc3
          subst hc3
          clear hb3
          have X3 := Lib.hid (X2.out.next hb)
          obtain ⟨A', ca', N', cn', rfl, hx3⟩ := hv3
          have X4 := Lib.hid (X3.out.next ((Below.refl _ _).alloc (Nat.le_refl _) (.cells (anC b A' ca' N' cn').toArray 28)))
          clear hb hx3 DN
          obtain rfl := TZ.out
          unfold anC at X4 ⊢
          go_wp2_with fail
          refine (Decode_l s hs1 _).mono ?_
          rintro e w5 ⟨v5, f, o, rfl, hf, ho, hv, hb⟩
          rcases dec_iff s.data.toList with ⟨d0, d1, d2, d3⟩ | ⟨d0, _, _⟩
          · rw [d0] at hf
            rw [← ho] at d1 d2
            subst hf
            clear d0 ho
            have Y1 := Lib.hid (X4.out.next hb)
            have O1 := Lib.hid hv
            clear hb hv
            obtain ⟨A5, ca5, N5, cn5, rfl, hv5⟩ := O1.out
            have V5 := Lib.hid hv5
            have Y2 := Lib.hid (Y1.out.next ((Below.refl _ _).alloc (Nat.le_refl _) (.cells (anC o A5 ca5 N5 cn5).toArray 28)))
            clear hv5
            unfold anC at Y2 ⊢
            go_wp2_with fail
            refine (Encode_l o _ _ (V5.out.old ((Below.refl _ _).alloc (Nat.le_refl _) _))).mono ?_
            rintro e w6 ⟨U, cu, rfl, hU, hcu, hb⟩
            have Y3 := Lib.hid (Y2.out.next hb)
            clear hb
            obtain rfl : cu = 0 := hcu.trans (enc_yes d1 (by rw [d2]; exact d3)).2
            rw [(enc_yes d1 (by rw [d2]; exact d3)).1, d2] at hU
            obtain rfl : U = s := by
              have := bA_sub hU
              rw [bA_self] at this
              exact this
            clear hU hcu d1 d2 d3
            go_wp2_with fail
            refine (live_any _).mono ?_
            rintro e wl ⟨rfl, hb⟩
            have XL := Lib.hid (Y3.out.next hb)
            clear hb
            go_wp2
            go_ret
            exact ⟨rfl, XL.out.be⟩
          · rw [d0] at hf
            subst hf
            clear d0 ho
            have Y1 := Lib.hid (X4.out.next hb)
            have O1 := Lib.hid hv
            clear hb hv
            obtain ⟨A5, ca5, N5, cn5, rfl, hv5⟩ := O1.out
            have V5 := Lib.hid hv5
            have Y2 := Lib.hid (Y1.out.next ((Below.refl _ _).alloc (Nat.le_refl _) (.cells (anC o A5 ca5 N5 cn5).toArray 28)))
            clear hv5
            unfold anC at Y2 ⊢
            go_wp2_with fail
            refine (Encode_l o _ _ (V5.out.old ((Below.refl _ _).alloc (Nat.le_refl _) _))).mono ?_
            rintro e w6 ⟨U, cu, rfl, hU, hcu, hb⟩
            have Y3 := Lib.hid (Y2.out.next hb)
            clear hb
            clear hU hcu
            go_wp2_with fail
            refine (live_any _).mono ?_
            rintro e wl ⟨rfl, hb⟩
            have XL := Lib.hid (Y3.out.next hb)
            clear hb
            go_wp2
            go_ret
            exact ⟨rfl, XL.out.be⟩
      · obtain rfl : c = 1 := hc.trans (enc_bad ok).2
        rw [(enc_bad ok).1] at hT
        have TZ := Lib.hid (bA_sub hT)
        have DN := Lib.hid (show decC T.data.toList = 3 by rw [hT]; exact dec_none)
        have tsz : T.size ≤ 512 := by rw [bA_sub hT]; exact Nat.zero_le _
        have NO := Lib.hid (show decide (AnOk a) = false by simp [ok])
        clear hT hc ok
        go_wp2_with fail
        refine (Decode_l T (by unfold maxLen; omega) _).mono ?_
        rintro e w3 ⟨v3, c3, b, rfl, hc3, hb3, hv3, hb⟩
        rw [DN.out] at hc3
        subst hc3
        clear hb3
        have X3 := Lib.hid (X2.out.next hb)
        obtain ⟨A', ca', N', cn', rfl, hx3⟩ := hv3
        have X4 := Lib.hid (X3.out.next ((Below.refl _ _).alloc (Nat.le_refl _) (.cells (anC b A' ca' N' cn').toArray 28)))
        clear hb hx3 DN
        obtain rfl := TZ.out
        obtain ⟨W4, hW4⟩ : ∃ W4, W4 = w3.alloc (.cells (anC b A' ca' N' cn').toArray 28) := ⟨_, rfl⟩
        rw [← hW4] at X4
        have hW := hW4.symm
        unfold anC at hW
        clear hW4
        obtain ⟨x0, x1, x2, x3, x4, x5, x6, x7, x8, x9, x10⟩ := X4.out.cells
        unfold anC
        go_wp2_with fail
        refine (May_any a _ _ (IA.out _ X4.out.be)).mono ?_
        rintro e w4b ⟨rfl, hb⟩
        rw [NO.out]
        have X7 := Lib.hid (X4.out.next hb)
        clear hb hW x0 x1 x2 x3 x4 x5 x6 x7 x8 x9 x10
        go_wp2_with fail
        refine (Decode_l s hs1 _).mono ?_
        rintro e w5 ⟨v5, f, o, rfl, hf, ho, hv, hb⟩
        rcases dec_iff s.data.toList with ⟨d0, d1, d2, d3⟩ | ⟨d0, _, _⟩
        · rw [d0] at hf
          rw [← ho] at d1 d2
          subst hf
          clear d0 ho
          have Y1 := Lib.hid (X7.out.next hb)
          have O1 := Lib.hid hv
          clear hb hv
          obtain ⟨A5, ca5, N5, cn5, rfl, hv5⟩ := O1.out
          have V5 := Lib.hid hv5
          have Y2 := Lib.hid (Y1.out.next ((Below.refl _ _).alloc (Nat.le_refl _) (.cells (anC o A5 ca5 N5 cn5).toArray 28)))
          clear hv5
          unfold anC at Y2 ⊢
          go_wp2_with fail
          refine (Encode_l o _ _ (V5.out.old ((Below.refl _ _).alloc (Nat.le_refl _) _))).mono ?_
          rintro e w6 ⟨U, cu, rfl, hU, hcu, hb⟩
          have Y3 := Lib.hid (Y2.out.next hb)
          clear hb
          obtain rfl : cu = 0 := hcu.trans (enc_yes d1 (by rw [d2]; exact d3)).2
          rw [(enc_yes d1 (by rw [d2]; exact d3)).1, d2] at hU
          obtain rfl : U = s := by
            have := bA_sub hU
            rw [bA_self] at this
            exact this
          clear hU hcu d1 d2 d3
          go_wp2_with fail
          refine (live_any _).mono ?_
          rintro e wl ⟨rfl, hb⟩
          have XL := Lib.hid (Y3.out.next hb)
          clear hb
          go_wp2
          go_ret
          exact ⟨rfl, XL.out.be⟩
        · rw [d0] at hf
          subst hf
          clear d0 ho
          have Y1 := Lib.hid (X7.out.next hb)
          have O1 := Lib.hid hv
          clear hb hv
          obtain ⟨A5, ca5, N5, cn5, rfl, hv5⟩ := O1.out
          have V5 := Lib.hid hv5
          have Y2 := Lib.hid (Y1.out.next ((Below.refl _ _).alloc (Nat.le_refl _) (.cells (anC o A5 ca5 N5 cn5).toArray 28)))
          clear hv5
          unfold anC at Y2 ⊢
          go_wp2_with fail
          refine (Encode_l o _ _ (V5.out.old ((Below.refl _ _).alloc (Nat.le_refl _) _))).mono ?_
          rintro e w6 ⟨U, cu, rfl, hU, hcu, hb⟩
          have Y3 := Lib.hid (Y2.out.next hb)
          clear hb
          clear hU hcu
          go_wp2_with fail
          refine (live_any _).mono ?_
          rintro e wl ⟨rfl, hb⟩
          have XL := Lib.hid (Y3.out.next hb)
          clear hb
          go_wp2
          go_ret
          exact ⟨rfl, XL.out.be⟩

theorem own : ownKnob Try.prog.godebug = none := by kernel_rfl
theorem laidOut : laidOutB Try.prog = true := by kernel_rfl
theorem contract (H : Type) (enc : TypeId × Value → H) (W : World) (base : Nat) (args : Array Value) (ds gs : List (DataW H)) (before : List MemPlace)
    (hval : ∀ (j : Nat) t v, Try.f3.params[j]? = some t → args[j]? = some v → Value.okWide Try.prog W .any base t v)
    (hW : DataW.Whole enc Try.prog Try.f3.params.toList Rows.answerBackSpec.vars false W args.toList ds gs before) :
    Calls Try.prog 3 args W fun e W' => ∃ v, e = .returned v ∧ Rows.answerBackSpec.post enc Try.prog Try.f3 false true false false W args v W' := by
  have hW' := hW
  obtain ⟨p, q, hA0, hV, rfl, hfz, hnd⟩ := hW
  have hA : DataW.TrodAll enc Try.prog W 0 (fun _ => true) true Try.f3.params.toList args.toList ds p := hA0
  rw [Try.params3] at hA hval
  obtain ⟨v0, vs0, d0, ds0, p0, q0, hargs, rfl, rfl, h0, r0⟩ := trodAll_cons hA
  obtain ⟨v1, vs1, d1, ds1, p1, q1, rfl, rfl, rfl, h1, r1⟩ := trodAll_cons r0
  obtain ⟨v2, vs2, d2, ds2, p2, q2, rfl, rfl, rfl, h2, r2⟩ := trodAll_cons r1
  obtain ⟨rfl, rfl, rfl⟩ := trodAll_nil r2
  obtain rfl : args = #[v0, v1, v2] := by cases args; simp_all
  obtain ⟨rfl, rfl⟩ := trodVars_none hV
  have k0 := h0
  have lt0 : ∀ x ∈ p0, x.block < W.heap.size := by obtain ⟨m, hm⟩ := k0; exact DataW.trod_lt m _ _ _ hm
  obtain ⟨a0, w0⟩ := open_an (hval 0 28 v0 rfl rfl) h0
  obtain ⟨a1, rfl, rfl, rfl, w1⟩ := open_string Try.underlying9 (hval 1 9 v1 rfl rfl) h1
  obtain ⟨a2, rfl, rfl, rfl, w2⟩ := open_int Try.underlying3 (hval 2 3 v2 rfl rfl) h2
  clear hA0
  refine (walk a0 v0 a1 a2 w0 w1 w2).mono fun e W' ⟨he, bel⟩ => ?_
  subst he
  exact ⟨_, rfl, _, _, _, [], _, [], hW', trodAll_mk1 (shut_bool Try.underlying4 _), (trodAll_cons_mk (Below.trod laidOut (by kernel_rfl) (of_decide_eq_true (by kernel_rfl)) k0 bel lt0) (trodAll_cons_mk (shut_string Try.underlying9 w1) (trodAll_cons_mk (shut_int Try.underlying3 w2) trodAll_mk0))), rfl, bel.frame _, fun h => by cases h⟩

set_option maxRecDepth 100000 in
theorem lifted (os : Os) (started : os.Started) (H : Type) (enc : TypeId × Value → H) :
    ReturnsInHanded {} Try.checked os 3 .any (Rows.answerBackSpec.pre6 enc Try.prog Try.f3 Rows.answerBackRow.domain false) (Rows.answerBackSpec.post enc Try.prog Try.f3 false true false false) := by
  refine returnsInHanded_of_change (C := Try.checked) own started (by kernel_rfl) Try.func3
    (ChangeSpec.witness6 (enc := enc) (C := Try.checked) false ⟨#[], #[.agg #[.int .i64 0, .int .i64 0, .slice none 0 0, .int .i64 0, .int .i64 0, .int .i64 0, .int .i64 0, .int .i64 0, .int .i64 0, .int .i64 0, .slice none 0 0], .string .empty, .int .i64 0], []⟩ 8 (by kernel_rfl) (by kernel_rfl) (by kernel_rfl) (by kernel_rfl)) ?_
  intro W base args ds gs before hval hW _ _
  exact contract H enc W base args ds gs before hval hW

theorem over : Rows.answerBackRow.holds Try.pinned (OpenSpec.ofChange Rows.answerBackSpec) :=
  OpenClaim.holds_of_wide 3 Try.f3 rfl rfl rfl rfl rfl rfl rfl ⟨rfl, rfl, rfl, rfl, rfl⟩ rfl rfl rfl rfl rfl (by kernel_rfl) Try.func3 (by kernel_rfl)
    (of_decide_eq_true (by kernel_rfl)) (by unfold Func.isWrapper; first | (rw [if_pos (by decide +kernel)]; kernel_rfl) | (rw [if_neg (by decide +kernel)]; exact ⟨rfl, rfl⟩))
    (fun os started H enc _ => lifted os started H enc)
end Go.Proofs.Ytljllfopgpmekac.answerBack
namespace Go.Proofs.Ytljllfopgpmekac
theorem answerBack_proved : Rows.AnswerBackSaid := answerBack.over
end Go.Proofs.Ytljllfopgpmekac

