/- For every list of chunks the law FrameFeeds returns true: the pieces that come of each, and how many bytes are left. -/
import Derived.Test.YtgcdminjpdbchabFr9
import Derived.Test.YtgcdminjpdbchabRows
import Derived.Deep.RegionWith
namespace Go.Proofs.Ytgcdminjpdbchab.frameFeeds
open Go.ChangeShapes Go.WideShapes Go.ChangeAt Go.RowKit
set_option linter.unusedVariables false

/-- Behind j chunks. -/
structure FI (W : World) (L : Nat → ByteArray) (r : Nat) (j : Nat) (wr : World) : Prop where
  m : ∃ v, Mn W wr r v (FrS.new.run (catS L j).data.toList).1
theorem cat_list (L : Nat → ByteArray) (j : Nat) : (catS L (j + 1)).data.toList = (catS L j).data.toList ++ (L j).data.toList := by simp [catS, ByteArray.data_append]
theorem parse_run (s : ByteArray) : (parseL s.data.toList).1 = (FrS.new.run s.data.toList).2 ∧ (parseL s.data.toList).2 = (FrS.new.run s.data.toList).1.k.length := by
  have := run_parse _ s.data.toList (Nat.le_refl _)
  exact ⟨this.1.symm, this.2.symm⟩
/-- What the last chunk told is what is behind what was told. -/
theorem parse_cat (L : Nat → ByteArray) (j : Nat) : (parseL (catS L (j + 1)).data.toList).1 = (parseL (catS L j).data.toList).1 ++ ((FrS.new.run (catS L j).data.toList).1.run (L j).data.toList).2 ∧ (FrS.new.run (catS L (j + 1)).data.toList).1 = ((FrS.new.run (catS L j).data.toList).1.run (L j).data.toList).1 := by
  rw [(parse_run _).1, (parse_run _).1, cat_list, run_append]
  exact ⟨rfl, rfl⟩
theorem Left_at (w : World) (r : Nat) (v : Value) (s : FrS) (z : Int) (h : Rd w r v s) (hz : (s.k.length : Int) = z) : Calls Try.prog 12 #[.pointer (some ⟨r, 0, none⟩)] w fun e w' => e = .returned (.int .i64 z) ∧ w = w' := by
  rw [← hz]; exact Left_any w r v s h
set_option maxRecDepth 100000 in
set_option maxHeartbeats 0 in
theorem walk (A : Option Addr) (len cap : Nat) {W : World} (h : IsStrs W A len cap) : Calls Try.prog 3 #[.slice A len cap] W fun e w' => e = .returned (.bool true) ∧ Below W.heap.size W w' := by
  obtain ⟨L, hS⟩ := h
  have HS := Lib.hid hS
  obtain ⟨q1, q2, q3⟩ := hS
  unfold maxLen at q2
  have HQ := Lib.hid q3
  clear q3
  by_cases hlen : 40 < len
  · have d1 : decide ((40 : Int) < len) = true := decide_eq_true (by omega)
    go_enter Try.func3, Try.ntmps3
    go_wp2_with fail
    refine (live_any W).mono ?_
    rintro e w1 ⟨rfl, hb⟩
    go_wp2
    go_ret
    exact ⟨rfl, hb⟩
  · have d1 : decide ((40 : Int) < len) = false := decide_eq_false (by omega)
    have d2 : ¬ (40 : Int) < len := by omega
    go_enter Try.func3, Try.ntmps3
    go_wp2_with fail
    go_loopw [3] (fun i wr => ∃ j : Nat, j ≤ len ∧ i = .int .i64 (j : Int) ∧ W = wr ∧ Hid (∀ i, i < j → (L i).size ≤ 4000)) (fun i _ => len - (intOf i).toNat)
    case atStart => exact ⟨0, Nat.zero_le _, rfl, by first | rfl | trivial, fun i hi => absurd hi (by omega)⟩
    case round =>
      obtain ⟨j, hj, rfl, rfl, HI⟩ := hrel
      by_cases hlt : j < len
      · obtain ⟨b, off, rfl, hb, hall⟩ := HQ.out (by omega)
        have c1 := (hall j hlt).1
        have z1 := (hall j hlt).2
        unfold maxLen at z1
        clear hall
        by_cases hz : 4000 < (L j).size
        · have e1 : decide ((4000 : Int) < ((L j).size : Int)) = true := decide_eq_true (by omega)
          have e2 : (4000 : Int) < ((L j).size : Int) := by omega
          go_wp2_with fail
          refine (live_any W).mono ?_
          rintro e w1 ⟨rfl, hb⟩
          go_wp2
          go_ret
          exact ⟨rfl, hb⟩
        · have e1 : decide ((4000 : Int) < ((L j).size : Int)) = false := decide_eq_false (by omega)
          have e2 : ¬ (4000 : Int) < ((L j).size : Int) := by omega
          go_wp2_with fail
          go_roundw
          case rel => exact ⟨j + 1, by omega, by go_num, by first | rfl | trivial, fun i hi => by
            by_cases q : i = j
            · rw [q]; omega
            · exact HI.out i (by omega)⟩
          case measure => simp [intOf]; omega
      · obtain rfl : j = len := by omega
        have HF := Lib.hid (few_any A j cap L W HS.out (by omega) HI.out)
        by_cases hs : (catS L j).size ≤ 4000
        · rw [decide_eq_true hs] at HF
          go_wp2_with fail
          refine HF.out.mono ?_
          rintro e w1 ⟨rfl, rfl⟩
          clear HF HI d1 d2 hlt
          go_wp2_with fail
          refine (New_any W).mono ?_
          rintro e w1 ⟨rfl, hr, hb, hlt1⟩
          have M0 := Lib.hid (show Mn W w1 W.heap.size (.slice none 0 0) (FrS.new.run (catS L 0).data.toList).1 from ⟨hr, hb, Nat.le_refl _, fun b hb => by simp [Value.ownBlock] at hb⟩)
          have E0 := Lib.hid (show ((parseL (catS L 0).data.toList).1.length : Int) = 0 from by rw [show (catS L 0).data.toList = [] from rfl, parse_0]; rfl)
          clear hr hb hlt1
          generalize W.heap.size = r at M0 ⊢
          go_wp2_with fail
          go_loopw [5, 6, 7] (fun s t i wr => ∃ (k : Nat) (v : Value), k ≤ j ∧ s = .string (catS L k) ∧ t = .int .i64 ((parseL (catS L k).data.toList).1.length : Int) ∧ i = .int .i64 (k : Int) ∧ Hid (Mn W wr r v (FrS.new.run (catS L k).data.toList).1)) (fun _ _ i _ => j - (intOf i).toNat)
          case atStart => exact ⟨0, _, Nat.zero_le _, rfl, by rw [E0.out], rfl, M0⟩
          case round =>
            obtain ⟨k, v, hk, rfl, rfl, rfl, HM⟩ := hrel
            clear M0 E0
            by_cases hlt : k < j
            · obtain ⟨b, off, rfl, hbw, hall⟩ := HQ.out (by omega)
              have c1 : wr.cell? ⟨b, off + k, none⟩ = some (.string (L k)) := by rw [HM.out.b.cell (p := ⟨b, off + k, none⟩) hbw]; exact (hall k hlt).1
              have HCL := Lib.hid (fun (w' : World) (hb : Below W.heap.size W w') => show w'.cell? ⟨b, off + k, none⟩ = some (.string (L k)) from by rw [hb.cell (p := ⟨b, off + k, none⟩) hbw]; exact (hall k hlt).1)
              have hk1 : (catS L (k + 1)).size ≤ 4000 := Nat.le_trans (catS_le L (k + 1) j (by omega)) hs
              have hk2 := catS_size L k
              have hk3 : ¬ 9223372036854775807 < (catS L k).size + (L k).size := by omega
              have HPC := Lib.hid (show Calls Try.prog 9 #[.string (catS L k ++ L k)] wr (PiecesT (catS L (k + 1)) wr) from Pieces_any wr (catS L (k + 1)) (by omega))
              clear hall hbw
              go_wp2_with fail
              refine HPC.out.mono ?_
              rintro e w2 ⟨pv, rfl, hP, hB2⟩
              have M2 := Lib.hid (HM.out.step hB2)
              have c2 := HCL.out w2 M2.out.b
              obtain ⟨PC1, PC2⟩ := parse_cat L k
              obtain ⟨P0, hP0⟩ : ∃ P0, (parseL (catS L k).data.toList).1 = P0 := ⟨_, rfl⟩
              obtain ⟨q, hq⟩ : ∃ q, P0.length = q := ⟨_, rfl⟩
              have HF := Lib.hid (fun (w' : World) (h' : Below w2.heap.size w2 w') => Feed_any w' r v _ (L k) (by omega) ((M2.out.step h').t))
              obtain ⟨N, hN⟩ : ∃ N, ((FrS.new.run (catS L k).data.toList).1.run (L k).data.toList).2 = N := ⟨_, rfl⟩
              obtain ⟨n, hn⟩ : ∃ n, N.length = n := ⟨_, rfl⟩
              obtain ⟨z, hz⟩ : ∃ z, (((parseL (catS L (k + 1)).data.toList).2 : Nat) : Int) = z := ⟨_, rfl⟩
              have hzz := (parse_run (catS L (k + 1))).2
              rw [hP0, hq]
              rw [hz]
              rw [PC1, hP0, hN] at hP
              have hHN := (fun (w' : World) (h' : Below w2.heap.size w2 w') => HF.out w' h')
              have hST := Lib.hid PC2
              have hPN : (P0 ++ N).length = q + n := by rw [List.length_append, hq, hn]
              have hb1 : q + n ≤ 4000 := by
                have := run_len (catS L (k + 1)).data.toList FrS.new
                rw [← (parse_run _).1, PC1, hP0, hN, hPN, Array.length_toList] at this
                exact Nat.le_trans this hk1
              obtain ⟨B, d, HR⟩ := rest_of hP hq hn
              have HRUN := HR.run
              have HAT := Lib.hid HR.at_
              have HP := Lib.hid hP
              have HFD := Lib.hid (HF.out w2.drew (Below.refl _ _).drew)
              have HLZ := Lib.hid (show ((FrS.new.run (catS L (k + 1)).data.toList).1.k.length : Int) = z by rw [← hzz]; exact hz)
              have HNN := Lib.hid hN
              have HLN := Lib.hid hn
              have HPN := Lib.hid hPN
              have HQC := Lib.hid (show (((parseL (catS L (k + 1)).data.toList).1.length : Nat) : Int) = (q : Int) + (n : Int) by rw [PC1, hP0, hN, hPN]; omega)
              clear hP HR hHN HF hPN hq hn hz hzz PC1 PC2 hP0 hN hB2 c1 hk2 hk3
              have MD := Lib.hid (M2.out.step (Below.refl _ _).drew)
              have PD := Lib.hid (HP.out.kept (Kept.of_below (F := fun _ => False) (Below.refl w2.heap.size w2).drew) (fun _ _ q => q))
              go_wp2_with fail
              go_region_with (first | (go_at_call 11; refine HFD.out.mono ?_; rintro e w3 ⟨xv, v2, rfl, hx, ht⟩; rw [HNN.out] at hx; obtain ⟨A3, c3, hxv, hc3, hm3, hA3⟩ := hx.at_; rw [HLN.out] at hxv; subst hxv; have M3 := Lib.hid (MD.out.fed ht); have P3 := Lib.hid (PD.out.beside MD.out.t ht (by decide) (by decide)); have S3 := Lib.hid (same_yes A3 B n c3 d N w3 HLN.out (by omega) hA3 (HAT.out w3 P3.out)); clear hx ht hA3 hc3 hm3) | (go_at_call 10; refine S3.out.mono ?_; rintro e w4 ⟨rfl, m, rfl⟩; have M4 := Lib.hid (M3.out.step (below_drewN (Below.refl _ _) m)); have L4 := Lib.hid (Left_at _ r v2 _ z M4.out.t (by rw [← hST.out]; exact HLZ.out))) | (go_at_call 12; refine L4.out.mono ?_; rintro e w5 ⟨rfl, rfl⟩))
              all_goals (
                obtain ⟨A2, c4, hpv, _, _, _⟩ := P3.out.at_
                rw [HPN.out] at hpv
                subst hpv
                have MZ := Lib.hid (show Mn W _ r v2 (FrS.new.run (catS L (k + 1)).data.toList).1 from by rw [hST.out]; exact M4.out)
                clear HFD HP PD MD M3 P3 S3 L4 HLZ hST HPN HNN HLN HAT HRUN HCL M2 HM M4 c2
                go_wp2
                go_roundw
                case rel => exact ⟨k + 1, v2, by omega, rfl, by rw [HQC.out], by go_num, MZ⟩
                case measure => simp [intOf]; omega)
            · have HB := Lib.hid HM.out.b
              go_wp2_with fail
              refine (live_any wr).mono ?_
              rintro e w2 ⟨rfl, hb⟩
              have HZ := Lib.hid (HB.out.trans (hb.mono HB.out.size))
              clear hb HM
              go_wp2
              go_ret
              exact ⟨rfl, HZ.out⟩
        · rw [decide_eq_false hs] at HF
          go_wp2_with fail
          refine HF.out.mono ?_
          rintro e w1 ⟨rfl, rfl⟩
          go_wp2_with fail
          refine (live_any W).mono ?_
          rintro e w1 ⟨rfl, hb⟩
          go_wp2
          go_ret
          exact ⟨rfl, hb⟩
theorem own : ownKnob Try.prog.godebug = none := by kernel_rfl
theorem laidOut : laidOutB Try.prog = true := by kernel_rfl
theorem contract (H : Type) (enc : TypeId × Value → H) (W : World) (base : Nat) (args : Array Value) (ds gs : List (DataW H)) (before : List MemPlace)
    (hval : ∀ (j : Nat) t v, Try.f3.params[j]? = some t → args[j]? = some v → Value.okWide Try.prog W .any base t v)
    (hW : DataW.Whole enc Try.prog Try.f3.params.toList Rows.frameFeedsSpec.vars false W args.toList ds gs before) :
    Calls Try.prog 3 args W fun e W' => ∃ v, e = .returned v ∧ Rows.frameFeedsSpec.post enc Try.prog Try.f3 false true false false W args v W' := by
  have hW' := hW
  obtain ⟨p, q, hA0, hV, rfl, hfz, hnd⟩ := hW
  have hA : DataW.TrodAll enc Try.prog W 0 (fun _ => true) true Try.f3.params.toList args.toList ds p := hA0
  rw [Try.params3] at hA hval
  obtain ⟨v0, vs0, d0, ds0, p0, q0, hargs, rfl, rfl, h0, r0⟩ := trodAll_cons hA
  obtain ⟨rfl, rfl, rfl⟩ := trodAll_nil r0
  obtain rfl : args = #[v0] := by cases args; simp_all
  obtain ⟨rfl, rfl⟩ := trodVars_none hV
  have k0 := h0
  have lt0 : ∀ x ∈ p0, x.block < W.heap.size := by obtain ⟨m, hm⟩ := k0; exact DataW.trod_lt m _ _ _ hm
  obtain ⟨a0, len0, cap0, rfl, w0⟩ := open_strs (hval 0 22 v0 rfl rfl) h0
  clear hA0
  refine (walk a0 len0 cap0 w0).mono fun e W' ⟨he, bel⟩ => ?_
  subst he
  exact ⟨_, rfl, _, _, _, [], _, [], hW', trodAll_mk1 (shut_bool Try.underlying4 _), (trodAll_cons_mk (Below.trod laidOut (by kernel_rfl) (of_decide_eq_true (by kernel_rfl)) k0 bel lt0) trodAll_mk0), rfl, bel.frame _, fun h => by cases h⟩

set_option maxRecDepth 100000 in
theorem lifted (os : Os) (started : os.Started) (H : Type) (enc : TypeId × Value → H) :
    ReturnsInHanded {} Try.checked os 3 .any (Rows.frameFeedsSpec.pre6 enc Try.prog Try.f3 Rows.frameFeedsRow.domain false) (Rows.frameFeedsSpec.post enc Try.prog Try.f3 false true false false) := by
  refine returnsInHanded_of_change (C := Try.checked) own started (by kernel_rfl) Try.func3
    (ChangeSpec.witness6 (enc := enc) (C := Try.checked) false ⟨#[], #[.slice none 0 0], []⟩ 8 (by kernel_rfl) (by kernel_rfl) (by kernel_rfl) (by kernel_rfl)) ?_
  intro W base args ds gs before hval hW _ _
  exact contract H enc W base args ds gs before hval hW

theorem over : Rows.frameFeedsRow.holds Try.pinned (OpenSpec.ofChange Rows.frameFeedsSpec) :=
  OpenClaim.holds_of_wide 3 Try.f3 rfl rfl rfl rfl rfl rfl rfl ⟨rfl, rfl, rfl, rfl, rfl⟩ rfl rfl rfl rfl rfl (by kernel_rfl) Try.func3 (by kernel_rfl)
    (of_decide_eq_true (by kernel_rfl)) (by unfold Func.isWrapper; first | (rw [if_pos (by decide +kernel)]; kernel_rfl) | (rw [if_neg (by decide +kernel)]; exact ⟨rfl, rfl⟩))
    (fun os started H enc _ => lifted os started H enc)
end Go.Proofs.Ytgcdminjpdbchab.frameFeeds
namespace Go.Proofs.Ytgcdminjpdbchab
theorem frameFeeds_proved : Rows.FrameFeedsSaid := frameFeeds.over
end Go.Proofs.Ytgcdminjpdbchab

