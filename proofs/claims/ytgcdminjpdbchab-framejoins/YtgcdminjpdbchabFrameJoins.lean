/- For all bytes s and t the law FrameJoins returns true: behind bytes of which nothing is left, and nothing is to be passed over, a reader goes on as a new one does. -/
import Derived.Test.YtgcdminjpdbchabFr10
import Derived.Test.YtgcdminjpdbchabRows
import Derived.ShutString
import Derived.Deep.RegionHeld3
namespace Go.Proofs.Ytgcdminjpdbchab.frameJoins
open Go.ChangeShapes Go.WideShapes Go.ChangeAt Go.RowKit
open Go.ChangeMaps (open_string shut_string)
set_option linter.unusedVariables false

set_option maxRecDepth 100000 in
set_option maxHeartbeats 0 in
theorem walk (s t : ByteArray) (hs : s.size ≤ maxLen) (ht : t.size ≤ maxLen) (W : World) : Calls Try.prog 5 #[.string s, .string t] W fun e w' => e = .returned (.bool true) ∧ Below W.heap.size W w' := by
  unfold maxLen at hs ht
  by_cases h1 : 2000 < s.size
  · have d1 : decide ((2000 : Int) < s.size) = true := decide_eq_true (by omega)
    have d2 : (2000 : Int) < s.size := by omega
    go_enter Try.func5, Try.ntmps5
    go_wp2_with fail
    refine (live_any W).mono ?_
    rintro e w1 ⟨rfl, hb⟩
    go_wp2
    go_ret
    exact ⟨rfl, hb⟩
  · have d1 : decide ((2000 : Int) < s.size) = false := decide_eq_false (by omega)
    have d2 : ¬ (2000 : Int) < s.size := by omega
    by_cases h2 : 2000 < t.size
    · have d3 : decide ((2000 : Int) < t.size) = true := decide_eq_true (by omega)
      have d4 : (2000 : Int) < t.size := by omega
      go_enter Try.func5, Try.ntmps5
      go_wp2_with fail
      refine (live_any W).mono ?_
      rintro e w1 ⟨rfl, hb⟩
      go_wp2
      go_ret
      exact ⟨rfl, hb⟩
    · have d3 : decide ((2000 : Int) < t.size) = false := decide_eq_false (by omega)
      have d4 : ¬ (2000 : Int) < t.size := by omega
      go_enter Try.func5, Try.ntmps5
      go_wp2_with fail
      refine (Pieces_any W s (by omega)).mono ?_
      rintro e w1 ⟨pv, rfl, hP, hB⟩
      obtain ⟨A0, c0, rfl, hc0, hm0, hA⟩ := hP.at_
      have HB1 := Lib.hid hB
      have HA := Lib.hid hA
      have HPL := Lib.hid (show (parseL s.data.toList).1.length ≤ 2000 by
        have := run_len s.data.toList FrS.new
        rw [← (parse_run _).1, Array.length_toList] at this
        exact Nat.le_trans this (by have : s.data.size = s.size := rfl; omega))
      have HNEW := Lib.hid (run_new _ s.data.toList (Nat.le_refl _))
      have HRUN := Lib.hid (parse_run s).1
      clear hP hB hA
      obtain ⟨P, eP⟩ : ∃ P, (parseL s.data.toList).1 = P := ⟨_, rfl⟩
      obtain ⟨z, ez⟩ : ∃ z, (parseL s.data.toList).2 = z := ⟨_, rfl⟩
      rw [eP] at HA HPL HNEW HRUN hc0 ⊢
      rw [ez] at HNEW ⊢
      clear eP ez
      obtain ⟨n, en⟩ : ∃ n, P.length = n := ⟨_, rfl⟩
      rw [en] at HPL hc0 ⊢
      have HN := Lib.hid en
      have hn := HPL.out
      clear en
      unfold maxLen at hm0
      go_wp2_with fail
      go_loopw [7, 8] (fun a i wr => ∃ (j : Nat) (y : Int), j ≤ n ∧ a = .int .i64 y ∧ i = .int .i64 (j : Int) ∧ w1 = wr ∧ Hid (∀ (i : Nat) (p : Pc), P[i]? = some p → i < j → p.2 = 0)) (fun _ i _ => n - (intOf i).toNat)
      case atStart => exact ⟨0, 0, Nat.zero_le _, rfl, rfl, by first | rfl | trivial, fun i p _ hi => absurd hi (by omega)⟩
      case round =>
        obtain ⟨j, y, hj, rfl, rfl, rfl, HI⟩ := hrel
        by_cases hlt : j < n
        · obtain ⟨b, off, rfl, hbl, hc⟩ := HA.out (by rw [HN.out]; omega)
          obtain ⟨ps, hps⟩ : ∃ ps, P[j]? = some ps := ⟨_, List.getElem?_eq_getElem (show j < P.length by rw [HN.out]; exact hlt)⟩
          have hq := hc j ps hps
          have x1 := hq.1
          have x2 := hq.2
          have HPS := Lib.hid hps
          obtain ⟨pt, pc⟩ := ps
          simp only at x1 x2
          clear hc hq hps
          by_cases hz : pc = 0
          · subst hz
            go_wp2_with fail
            go_roundw
            case rel => exact ⟨j + 1, _, by omega, rfl, by go_num, by first | rfl | trivial, fun i p hp hi => by
              by_cases q : i = j
              · subst q
                have e := HPS.out.symm.trans hp
                rw [← Option.some.inj e]
              · exact HI.out i p hp (by omega)⟩
            case measure => simp [intOf]; omega
          · have e1 : (pc != 0) = true := by simp [hz]
            have e2 : ¬ pc = 0 := hz
            go_wp2_with fail
            refine (live_any w1).mono ?_
            rintro e w2 ⟨rfl, hb⟩
            have HZ := Lib.hid (HB1.out.trans (hb.mono HB1.out.size))
            clear hb
            go_wp2
            go_ret
            exact ⟨rfl, HZ.out⟩
        · obtain rfl : j = n := by omega
          have HOK := Lib.hid (fun (p : Pc) (hp : p ∈ P) => show p.2 = 0 from by
            obtain ⟨i, hi, e⟩ := List.mem_iff_getElem.1 hp
            exact HI.out i p (by rw [List.getElem?_eq_getElem hi, e]) (by rw [← HN.out]; exact hi))
          clear HI
          by_cases hz : z = 0
          · subst hz
            by_cases hy : y = (s.size : Int)
            · have HST := Lib.hid (HNEW.out HOK.out rfl)
              subst hy
              clear HNEW HOK d1 d2 d3 d4
              have y1 : ((s.size : Int) != (s.size : Int)) = false := by simp
              go_wp2_with fail
              refine (New_any w1).mono ?_
              rintro e w2 ⟨rfl, hr, hb, hlt1⟩
              have M2 := Lib.hid (show Mn W w2 w1.heap.size (.slice none 0 0) FrS.new from ⟨hr, HB1.out.trans (hb.mono HB1.out.size), HB1.out.size, fun b hb => by simp [Value.ownBlock] at hb⟩)
              clear hr hb hlt1 HB1 HA
              generalize w1.heap.size = r1 at M2 ⊢
              go_wp2_with fail
              refine (New_any w2).mono ?_
              rintro e w3 ⟨rfl, hr, hb, hlt1⟩
              have T3 := Lib.hid (Two.two M2.out hr rfl rfl hb)
              clear hr hb hlt1 M2
              generalize w2.heap.size = r2 at T3 ⊢
              go_wp2_with fail
              refine (Feed_any w3 r1 _ _ s (by omega) T3.out.m1.t).mono ?_
              rintro e w4 ⟨x, v1, rfl, hx, hk⟩
              rw [HST.out] at hk
              rw [← HRUN.out] at hx
              have T4 := Lib.hid (T3.out.fed hk)
              obtain ⟨A3, c3, hxv, _, _, _⟩ := hx.at_
              rw [HN.out] at hxv
              subst hxv
              clear hx hk T3
              obtain ⟨S, eS⟩ : ∃ S, (FrS.new.run t.data.toList).1 = S := ⟨_, rfl⟩
              obtain ⟨Q, eQ⟩ : ∃ Q, (FrS.new.run t.data.toList).2 = Q := ⟨_, rfl⟩
              obtain ⟨q, eq⟩ : ∃ q, Q.length = q := ⟨_, rfl⟩
              have hq : q ≤ 2000 := by
                have := run_len t.data.toList FrS.new
                rw [eQ, eq, Array.length_toList] at this
                exact Nat.le_trans this (by have : t.data.size = t.size := rfl; omega)
              have HS := Lib.hid eS
              have HQ := Lib.hid eQ
              have HLQ := Lib.hid eq
              clear eS eQ eq
              go_wp2_with fail
              refine (Feed_any w4 r1 _ _ t (by omega) T4.out.m1.t).mono ?_
              rintro e w5 ⟨ya, v3, rfl, hya, hk⟩
              rw [HS.out] at hk
              rw [HQ.out] at hya
              have T5 := Lib.hid (T4.out.fed hk)
              have Y5 := Lib.hid hya
              clear hya hk T4
              go_wp2_with fail
              refine (Feed_any w5 r2 _ _ t (by omega) T5.out.m2.t).mono ?_
              rintro e w6 ⟨yb, v4, rfl, hyb, hk⟩
              rw [HS.out] at hk
              rw [HQ.out] at hyb
              have Y6 := Lib.hid (Y5.out.beside T5.out.m2.t hk (by decide) (by decide))
              have T6 := Lib.hid (T5.out.swap.fed hk)
              obtain ⟨A1, c5, hya, _, _, ha⟩ := Y6.out.at_
              obtain ⟨A2, c6, hyb2, _, _, hb⟩ := hyb.at_
              have HAL := Lib.hid (show Alike w6 A1 A2 Q from ⟨ha, hb⟩)
              rw [HLQ.out] at hya hyb2
              subst hya; subst hyb2
              clear hyb hk ha hb Y5 Y6 T5
              obtain ⟨zz, ez⟩ : ∃ zz, (S.k.length : Int) = zz := ⟨_, rfl⟩
              have L1 := Lib.hid (Left_at w6 r1 v3 S zz T6.out.m2.t ez)
              have L2 := Lib.hid (Left_at w6 r2 v4 S zz T6.out.m1.t ez)
              have HB6 := Lib.hid T6.out.m1.b
              clear ez T6 HS HQ HST HRUN
              go_wp2_with (first | (go_at_call 12; first | (with_reducible refine Calls.mono L1.out ?_; rintro e w7 ⟨rfl, rfl⟩) | (with_reducible refine Calls.mono L2.out ?_; rintro e w7 ⟨rfl, rfl⟩)))
              clear L1 L2
              go_loopw [14] (fun i wr => ∃ j : Nat, j ≤ q ∧ i = .int .i64 (j : Int) ∧ ∃ m, wr = w6.drewN m) (fun i _ => q - (intOf i).toNat)
              case atStart => exact ⟨0, Nat.zero_le _, rfl, 0, rfl⟩
              case round =>
                obtain ⟨j, hj, rfl, m, hw⟩ := hrel
                have HAW := Lib.hid (show Alike wr A1 A2 Q from by rw [hw]; exact HAL.out.drewN m)
                have HW := Lib.hid hw
                clear hw
                by_cases hlt : j < q
                · obtain ⟨b1, o1, b2, o2, sx, zx, rfl, rfl, x1, x2, x3, x4⟩ := HAW.out.four (j := j) (by rw [HLQ.out]; exact hlt)
                  clear HAW
                  go_wp2_with fail
                  go_quiet (fail)
                  go_wp2
                  go_roundw
                  case rel => exact ⟨j + 1, by omega, by go_num, _, by rw [HW.out, World.drewN_drewN]⟩
                  case measure => simp [intOf]; omega
                · have HBR := Lib.hid (show Below W.heap.size W wr from by rw [HW.out]; exact below_drewN HB6.out m)
                  clear HAW HAL
                  go_wp2_with fail
                  refine (live_any wr).mono ?_
                  rintro e w7 ⟨rfl, hb⟩
                  have HZ := Lib.hid (HBR.out.trans (hb.mono HBR.out.size))
                  clear hb
                  go_wp2
                  go_ret
                  exact ⟨rfl, HZ.out⟩
            · have e1 : (y != (s.size : Int)) = true := by simp [hy]
              go_wp2_with fail
              refine (live_any w1).mono ?_
              rintro e w2 ⟨rfl, hb⟩
              have HZ := Lib.hid (HB1.out.trans (hb.mono HB1.out.size))
              clear hb
              go_wp2
              go_ret
              exact ⟨rfl, HZ.out⟩
          · have e1 : ((z : Int) != 0) = true := by simp; omega
            have e2 : ¬ (z : Int) = 0 := by omega
            go_wp2_with fail
            refine (live_any w1).mono ?_
            rintro e w2 ⟨rfl, hb⟩
            have HZ := Lib.hid (HB1.out.trans (hb.mono HB1.out.size))
            clear hb
            go_wp2
            go_ret
            exact ⟨rfl, HZ.out⟩
theorem own : ownKnob Try.prog.godebug = none := by kernel_rfl
theorem laidOut : laidOutB Try.prog = true := by kernel_rfl
theorem contract (H : Type) (enc : TypeId × Value → H) (W : World) (base : Nat) (args : Array Value) (ds gs : List (DataW H)) (before : List MemPlace)
    (hval : ∀ (j : Nat) t v, Try.f5.params[j]? = some t → args[j]? = some v → Value.okWide Try.prog W .any base t v)
    (hW : DataW.Whole enc Try.prog Try.f5.params.toList Rows.frameJoinsSpec.vars false W args.toList ds gs before) :
    Calls Try.prog 5 args W fun e W' => ∃ v, e = .returned v ∧ Rows.frameJoinsSpec.post enc Try.prog Try.f5 false true false false W args v W' := by
  have hW' := hW
  obtain ⟨p, q, hA0, hV, rfl, hfz, hnd⟩ := hW
  have hA : DataW.TrodAll enc Try.prog W 0 (fun _ => true) true Try.f5.params.toList args.toList ds p := hA0
  rw [Try.params5] at hA hval
  obtain ⟨v0, vs0, d0, ds0, p0, q0, hargs, rfl, rfl, h0, r0⟩ := trodAll_cons hA
  obtain ⟨v1, vs1, d1, ds1, p1, q1, rfl, rfl, rfl, h1, r1⟩ := trodAll_cons r0
  obtain ⟨rfl, rfl, rfl⟩ := trodAll_nil r1
  obtain rfl : args = #[v0, v1] := by cases args; simp_all
  obtain ⟨rfl, rfl⟩ := trodVars_none hV
  obtain ⟨a0, rfl, rfl, rfl, w0⟩ := open_string Try.underlying9 (hval 0 9 v0 rfl rfl) h0
  obtain ⟨a1, rfl, rfl, rfl, w1⟩ := open_string Try.underlying9 (hval 1 9 v1 rfl rfl) h1
  clear hA0
  refine (walk a0 a1 w0 w1 W).mono fun e W' ⟨he, bel⟩ => ?_
  subst he
  exact ⟨_, rfl, _, _, _, [], _, [], hW', trodAll_mk1 (shut_bool Try.underlying4 _), (trodAll_cons_mk (shut_string Try.underlying9 w0) (trodAll_cons_mk (shut_string Try.underlying9 w1) trodAll_mk0)), rfl, bel.frame _, fun h => by cases h⟩

set_option maxRecDepth 100000 in
theorem lifted (os : Os) (started : os.Started) (H : Type) (enc : TypeId × Value → H) :
    ReturnsInHanded {} Try.checked os 5 .any (Rows.frameJoinsSpec.pre6 enc Try.prog Try.f5 Rows.frameJoinsRow.domain false) (Rows.frameJoinsSpec.post enc Try.prog Try.f5 false true false false) := by
  refine returnsInHanded_of_change (C := Try.checked) own started (by kernel_rfl) Try.func5
    (ChangeSpec.witness6 (enc := enc) (C := Try.checked) false ⟨#[], #[.string .empty, .string .empty], []⟩ 8 (by kernel_rfl) (by kernel_rfl) (by kernel_rfl) (by kernel_rfl)) ?_
  intro W base args ds gs before hval hW _ _
  exact contract H enc W base args ds gs before hval hW

theorem over : Rows.frameJoinsRow.holds Try.pinned (OpenSpec.ofChange Rows.frameJoinsSpec) :=
  OpenClaim.holds_of_wide 5 Try.f5 rfl rfl rfl rfl rfl rfl rfl ⟨rfl, rfl, rfl, rfl, rfl⟩ rfl rfl rfl rfl rfl (by kernel_rfl) Try.func5 (by kernel_rfl)
    (of_decide_eq_true (by kernel_rfl)) (by unfold Func.isWrapper; first | (rw [if_pos (by decide +kernel)]; kernel_rfl) | (rw [if_neg (by decide +kernel)]; exact ⟨rfl, rfl⟩))
    (fun os started H enc _ => lifted os started H enc)
end Go.Proofs.Ytgcdminjpdbchab.frameJoins
namespace Go.Proofs.Ytgcdminjpdbchab
theorem frameJoins_proved : Rows.FrameJoinsSaid := frameJoins.over
end Go.Proofs.Ytgcdminjpdbchab

