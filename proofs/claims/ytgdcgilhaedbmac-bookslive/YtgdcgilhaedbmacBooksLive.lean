/- For every list of numbers and every list of policies the law BooksLive returns true: Live tells the numbers of the books that are on, in their order. No condition. -/
import Derived.Test.YtgdcgilhaedbmacRows
import Derived.Test.YtgdcgilhaedbmacBk9
import Derived.Deep.DeepCutAuto
namespace Go.Proofs.Ytgdcgilhaedbmac.booksLive
open Go.ChangeShapes Go.WideShapes Go.ChangeAt Go.RowKit
set_option linter.unusedVariables false

set_option maxRecDepth 100000 in
set_option maxHeartbeats 4000000 in
theorem delL_yes {L : Nat → Bk} {z : Int} : delL 0 L z = putB L z.toNat ⟨false, 0, 0, 0, 0, (L z.toNat).n + 0⟩ := if_pos rfl
theorem delL_no {L : Nat → Bk} {z c : Int} (h : c ≠ 0) : delL c L z = L := if_neg h
set_option maxRecDepth 100000 in
set_option maxHeartbeats 4000000 in
theorem no (AI : Option Addr) (n cI : Nat) (AP : Option Addr) (m cP : Nat) (W : World) (h : ¬ (n ≤ 60 ∧ m = n)) (hn : n ≤ maxLen) (hm : m ≤ maxLen) : Calls Try.prog 7 #[.slice AI n cI, .slice AP m cP] W fun e w' => e = .returned (.bool true) ∧ Below W.heap.size W w' := by
  unfold maxLen at hn hm
  by_cases h60 : n ≤ 60
  · have d : decide ((60 : Int) < (n : Int)) = false := by simp; omega
    have d2 : ((m : Int) != (n : Int)) = true := by simp; omega
    clear h
    go_enter Try.func7, Try.ntmps7
    go_wp2_with fail
    refine (live_any _).mono ?_; rintro e wl ⟨rfl, hb⟩
    have HB := Lib.hid hb
    clear hb
    go_wp2_with fail
    go_ret
    exact ⟨rfl, HB.out⟩
  · have d : decide ((60 : Int) < (n : Int)) = true := by simp; omega
    clear h
    go_enter Try.func7, Try.ntmps7
    go_wp2_with fail
    refine (live_any _).mono ?_; rintro e wl ⟨rfl, hb⟩
    have HB := Lib.hid hb
    clear hb
    go_wp2_with fail
    go_ret
    exact ⟨rfl, HB.out⟩
set_option maxRecDepth 100000 in
set_option maxHeartbeats 8000000 in
theorem yes (AI : Option Addr) (n cI : Nat) (AP : Option Addr) (cP : Nat) (f : Nat → Int) (P : Nat → Bk) (W : World) (hn : n ≤ 60) (h1 : RdI W AI n f) (h2 : PolsAt W AP n P) : Calls Try.prog 7 #[.slice AI n cI, .slice AP n cP] W fun e w' => e = .returned (.bool true) ∧ Below W.heap.size W w' := by
  have HI := Lib.hid h1
  have HP := Lib.hid h2
  clear h1 h2
  have d : decide ((60 : Int) < (n : Int)) = false := by simp; omega
  have d2 : ((n : Int) != (n : Int)) = false := by simp
  go_enter Try.func7, Try.ntmps7
  go_wp2_with fail
  refine (New_any _).mono ?_; rintro e w1 ⟨A0, c0, rfl, hk, hb⟩
  have S0 := Lib.hid (show Sv W w1.heap.size 49 A0 L0 (fun j => .bool (L0 j).on) (w1.alloc (.cells #[.bool false, .bool false, .bool false, .bool false, .bool false, .bool false, .bool false, .bool false] 49)) from Sv.made hb hk (oneK_on L0))
  clear hb hk
  go_wp2_with fail
  generalize w1.alloc (.cells #[.bool false, .bool false, .bool false, .bool false, .bool false, .bool false, .bool false, .bool false] 49) = w0 at S0 ⊢
  generalize w1.heap.size = g at S0 ⊢
  clear d d2
  go_loopw [5, 7] (fun vb vi wr => ∃ (i : Nat) (A : Option Addr) (cap : Nat) (L : Nat → Bk), i ≤ n ∧ vb = .slice A 8 cap ∧ vi = .int .i64 (i : Int) ∧ MayBs 8 L ∧ Sv W g 49 A L (fun j => .bool (L j).on) wr) (fun _ vi _ => n - (intOf vi).toNat)
  case atStart => exact ⟨0, A0, c0, L0, Nat.zero_le _, rfl, rfl, may_L0, S0.out⟩
  case round =>
    obtain ⟨i, A, cap, L, hi, rfl, rfl, hmay, hs⟩ := hrel
    have S1 := Lib.hid hs
    have MY := Lib.hid hmay
    clear hs hmay S0
    by_cases hlt : i < n
    · obtain ⟨bi, oi, rfl, hli, hci⟩ := HI.out (by omega)
      obtain ⟨bp, op, rfl, hlp, hcp⟩ := HP.out (by omega)
      have AG := Lib.hid (Arg.mk hli hlp (hci i hlt) (hcp i hlt).1 (hcp i hlt).2.1 (hcp i hlt).2.2.1 (hcp i hlt).2.2.2)
      clear hli hlp hci hcp
      generalize f i = z at AG
      generalize P i = B at AG
      obtain ⟨_, k, l, v, b, _⟩ := B
      simp only at AG
      have B0 : (0 : Int) ≤ (i : Int) := by omega
      have B1 : (i : Int) < (n : Int) := by omega
      obtain ⟨x0, x1, x2, x3, x4⟩ := AG.out.five S1.out.be
      by_cases hp : MayP k l v b
      · have CK := Lib.hid (fun u => rCheck_yes k l v b u hp)
        clear hp
        obtain ⟨c, hc⟩ := setC_ex 8 L z k l v b
        have ST := Lib.hid (fun A cap u (hu : BksAt u A 8 L) => Set_any A 8 cap L z k l v b c u hu (by omega) hc)
        have HC := Lib.hid hc
        have MS := Lib.hid (may_set MY.out hc)
        clear hc
        go_wp2_with fail
        refine (CK.out _).mono ?_; rintro e w2 ⟨rfl, hb⟩
        have S2 := Lib.hid (S1.out.step hb)
        clear hb S1 x0 x1 x2 x3 x4 CK
        go_upto_region 9 with (fail)
        go_cut [8, 9, 10] (fun s10 s11 s12 wx => ∃ A' cap', s10 = .slice A' 8 cap' ∧ s11 = .int .i64 (setM c L z) ∧ s12 = .int .i64 c ∧ Sv W g 49 A' (setL c L z k l v b) (fun j => .bool (L j).on) wx)
        case first =>
          go_region_held3 (fun w' => w'.cell? ⟨bi, oi + i, none⟩ = some (.int .i64 z) ∧ w'.cell? ⟨bp, op + i * 4, none⟩ = some (.int .i64 k) ∧ w'.cell? ⟨bp, op + i * 4 + 1, none⟩ = some (.int .i64 l) ∧ w'.cell? ⟨bp, op + i * 4 + 2, none⟩ = some (.int .i64 v) ∧ w'.cell? ⟨bp, op + i * 4 + 3, none⟩ = some (.int .i64 b)) (first | (with_reducible exact AG.out.five S2.out.be) | (with_reducible exact AG.out.five S2.out.drew.be) | (with_reducible exact AG.out.five S3.out.be) | go_keep) (first | (go_at_call 19; (with_reducible refine (ST.out _ _ _ S2.out.drew.kb).mono ?_); rintro e w3 ⟨A', cap', rfl, hk, hb⟩; have S3 := Lib.hid (S2.out.drew.told hk hb (oneK_on L)); clear hk hb))
          all_goals (go_wp2_with fail; go_meet; exact ⟨_, _, rfl, rfl, rfl, S3.out⟩)
        case rest =>
        obtain ⟨A', cap', rfl, rfl, rfl, hz⟩ := hcut
        have S3 := Lib.hid hz
        clear hz S2 ST
        by_cases h0 : c = 0
        · subst h0
          obtain ⟨r0, r1, r2⟩ := setC_in HC.out
          obtain ⟨e1, e2⟩ := @setL_yes L z k l v b
          rw [e1] at S3 MS
          obtain ⟨j, rfl⟩ : ∃ j : Nat, z = (j : Int) := ⟨z.toNat, by omega⟩
          rw [Int.toNat_natCast] at S3 MS
          have J8 := Lib.hid (show j < 8 by omega)
          have J0 : (0 : Int) ≤ (j : Int) := by omega
          have J1 : (j : Int) < 8 := by omega
          have J2 : decide ((j : Int) < 0) = false := by simp
          have J3 : decide ((7 : Int) < (j : Int)) = false := by simp; omega
          have y0 : _ = some (Value.bool (L j).on) := S3.out.at J8.out
          have y1 := S3.out.la.loose
          have GG := Lib.hid (fun q (h : q < 8) => (show (fun t => Value.bool (putB L j ⟨true, k, l, v, b, (L j).n + 1⟩ t).on) q = if q = j then .bool true else (fun t => Value.bool (L t).on) q by simp only [putB]; split <;> rfl))
          have PU := Lib.hid (S3.out.put J8.out GG.out)
          clear GG e1 e2 HC r2
          obtain ⟨x0, x1, x2, x3, x4⟩ := AG.out.five S3.out.be
          go_wp2_with fail
          go_roundw
          case rel => exact ⟨i + 1, _, _, _, by omega, rfl, by go_num, MS.out, PU.out⟩
          case measure => simp [intOf]; omega
        · obtain ⟨e1, e2⟩ := @setL_no L z k l v b c h0
          rw [e1] at S3
          have dc : (c == 0) = false := by simp [h0]
          clear e1 h0 HC
          obtain ⟨x0, x1, x2, x3, x4⟩ := AG.out.five S3.out.be
          go_wp2_with fail
          go_roundw
          case rel => exact ⟨i + 1, _, _, L, by omega, rfl, by go_num, MY.out, S3.out⟩
          case measure => simp [intOf]; omega
      · have CK := Lib.hid (fun u => rCheck_no k l v b u hp)
        clear hp
        obtain ⟨c, hc⟩ := getC_ex 8 L z
        have DT := Lib.hid (fun A cap u (hu : BksAt u A 8 L) => Delete_any A 8 cap L z c u hu (by omega) hc)
        have HC := Lib.hid hc
        have MD := Lib.hid (may_del MY.out hc)
        clear hc
        go_wp2_with fail
        refine (CK.out _).mono ?_; rintro e w2 ⟨rfl, hb⟩
        have S2 := Lib.hid (S1.out.step hb)
        clear hb S1 x0 x1 x2 x3 x4 CK
        obtain ⟨x0, x1, x2, x3, x4⟩ := AG.out.five S2.out.be
        by_cases h0 : c = 0
        · subst h0
          obtain ⟨r0, r1, r2⟩ := getC_in HC.out
          rw [delL_yes] at DT MD
          obtain ⟨j, rfl⟩ : ∃ j : Nat, z = (j : Int) := ⟨z.toNat, by omega⟩
          rw [Int.toNat_natCast] at DT MD r2
          have J8 := Lib.hid (show j < 8 by omega)
          have J0 : (0 : Int) ≤ (j : Int) := by omega
          have J1 : (j : Int) < 8 := by omega
          have J2 : decide ((j : Int) < 0) = false := by simp
          have J3 : decide ((7 : Int) < (j : Int)) = false := by simp; omega
          go_wp2_with fail
          refine (DT.out _ _ _ S2.out.kb).mono ?_; rintro e w3 ⟨A', cap', rfl, hk, hb⟩
          have S3 := Lib.hid (S2.out.told hk hb (oneK_on L))
          clear hb hk x0 x1 x2 x3 x4 S2
          obtain ⟨x0, x1, x2, x3, x4⟩ := AG.out.five S3.out.be
          have y0 : _ = some (Value.bool (L j).on) := S3.out.at J8.out
          rw [r2] at y0
          have y1 := S3.out.la.loose
          have GG := Lib.hid (fun q (h : q < 8) => (show (fun t => Value.bool (putB L j ⟨false, 0, 0, 0, 0, (L j).n + 0⟩ t).on) q = if q = j then .bool false else (fun t => Value.bool (L t).on) q by simp only [putB]; split <;> rfl))
          have PU := Lib.hid (S3.out.put J8.out GG.out)
          clear GG HC r2
          go_wp2_with fail
          go_roundw
          case rel => exact ⟨i + 1, _, _, _, by omega, rfl, by go_num, MD.out, PU.out⟩
          case measure => simp [intOf]; omega
        · rw [delL_no h0] at DT MD
          have dc : (c == 0) = false := by simp [h0]
          clear h0 HC
          go_wp2_with fail
          refine (DT.out _ _ _ S2.out.kb).mono ?_; rintro e w3 ⟨A', cap', rfl, hk, hb⟩
          have S3 := Lib.hid (S2.out.told hk hb (oneK_on L))
          clear hb hk
          go_wp2_with fail
          go_roundw
          case rel => exact ⟨i + 1, _, _, _, by omega, rfl, by go_num, MD.out, S3.out⟩
          case measure => simp [intOf]; omega
    · have B1 : decide ((i : Int) < (n : Int)) = false := by simp; omega
      go_wp2_with fail
      go_loopw [13, 14] (fun vv vj wq => ∃ j : Nat, j ≤ 8 ∧ vj = .int .i64 (j : Int) ∧ Own1 wr.heap.size 3 wq vv (iv (liveL L j)) ∧ Below wr.heap.size wr wq) (fun _ vj _ => 8 - (intOf vj).toNat)
      case atStart => exact ⟨0, Nat.zero_le _, rfl, Own1.nil _ _ _, Below.refl _ _⟩
      case round =>
        obtain ⟨j, hj, rfl, ho, hr⟩ := hrel
        obtain ⟨AO, cO, rfl⟩ := ho.sl
        have hlen := liveL_len L j
        rw [iv_len] at ho ⊢
        have R1 := Lib.hid hr
        have O1 := Lib.hid ho
        clear hr ho
        by_cases hlt2 : j < 8
        · have J0 : (0 : Int) ≤ (j : Int) := by omega
          have J1 : (j : Int) < 8 := by omega
          have y0 : _ = some (Value.bool (L j).on) := (R1.out.cell (p := ⟨g, j, none⟩) S1.out.la.lt).trans (S1.out.at hlt2)
          have HS := Lib.hid (show liveL L (j + 1) = liveL L j ++ if (L j).on = true then [(j : Int)] else [] from rfl)
          generalize hlz : (liveL L j).length = m at *
          have LN := Lib.hid (show (iv (liveL L j)).length = m by rw [iv_len]; exact hlz)
          clear hlz
          generalize (L j).on = on at y0 HS
          cases on
          · go_wp2_with fail
            go_roundw
            case rel => exact ⟨j + 1, by omega, by go_num, by rw [HS.out]; simpa using O1.out, R1.out⟩
            case measure => simp [intOf]; omega
          · go_wp2_with (at_builtin; refine wpList_append_own1 wr _ (by simp) rfl _ _ 31 rfl 3 (.int .i64 0) 8 Try.underlying31 infoI rfl (by decide) _ (.int .i64 (j : Int)) (iv (liveL L j)) m LN.out rfl rfl rfl O1.out R1.out.size (by omega) ?_)
            intro g7 cap7 w7 ho hk hg hgl
            have R7 := Lib.hid (R1.out.trans (hk.below R1.out.size (fun c hc e => by have := O1.out.ge e; omega)))
            have O7 := Lib.hid ho
            clear ho hk hg hgl
            go_wp2_with fail
            go_roundw
            case rel => exact ⟨j + 1, by omega, by go_num, by rw [HS.out, if_pos (by trivial), iv_snoc]; exact O7.out, R7.out⟩
            case measure => simp [intOf]; omega
        · have e : j = 8 := by omega
          subst e
          have S2 := Lib.hid (S1.out.step R1.out)
          obtain ⟨A', cap', e', hrd⟩ := O1.out.rd
          injection e' with e1 e2 e3
          subst e1 e3
          have RD := Lib.hid hrd
          clear hrd
          have lv := Live_any A 8 cap L wr S2.out.kb (by omega)
          unfold LivedI at lv
          have LV := Lib.hid lv
          clear lv
          generalize (liveL L 8).length = m at *
          go_wp2_with fail
          refine LV.out.mono ?_; rintro e w3 ⟨A3, c3, rfl, h3, hb⟩
          have S3 := Lib.hid (S2.out.step hb)
          have IE := Lib.hid (Ints_eq A3 AO m c3 cO _ w3 h3 (RD.out.below hb) (by omega))
          clear hb h3
          go_wp2_with fail
          refine IE.out.mono ?_; rintro e w4 ⟨rfl, hb⟩
          have S4 := Lib.hid (S3.out.step hb)
          clear hb
          go_wp2_with fail
          refine (live_any _).mono ?_; rintro e wc ⟨rfl, hb⟩
          have S5 := Lib.hid (S4.out.step hb)
          clear hb
          go_wp2_with fail
          go_ret
          exact ⟨rfl, S5.out.be⟩
theorem walk (AI : Option Addr) (n cI : Nat) (zs : List Int) (AP : Option Addr) (m cP : Nat) {W : World} (h : IsInts .i64 W AI n cI zs) (h2 : IsPols W AP m cP) : Calls Try.prog 7 #[.slice AI n cI, .slice AP m cP] W fun e w' => e = .returned (.bool true) ∧ Below W.heap.size W w' := by
  obtain ⟨q1, q2, P, hP⟩ := h2
  by_cases hn : n ≤ 60 ∧ m = n
  · obtain ⟨hn, rfl⟩ := hn
    exact yes AI m cI AP cP _ P W hn (rd_of h) hP
  · exact no AI n cI AP m cP W hn (int_len h) (Nat.le_trans q1 q2)

theorem own : ownKnob Try.prog.godebug = none := by kernel_rfl
theorem laidOut : laidOutB Try.prog = true := by kernel_rfl
theorem contract (H : Type) (enc : TypeId × Value → H) (W : World) (base : Nat) (args : Array Value) (ds gs : List (DataW H)) (before : List MemPlace)
    (hval : ∀ (j : Nat) t v, Try.f7.params[j]? = some t → args[j]? = some v → Value.okWide Try.prog W .any base t v)
    (hW : DataW.Whole enc Try.prog Try.f7.params.toList Rows.booksLiveSpec.vars false W args.toList ds gs before) :
    Calls Try.prog 7 args W fun e W' => ∃ v, e = .returned v ∧ Rows.booksLiveSpec.post enc Try.prog Try.f7 false true false false W args v W' := by
  have hW' := hW
  obtain ⟨p, q, hA0, hV, rfl, hfz, hnd⟩ := hW
  have hA : DataW.TrodAll enc Try.prog W 0 (fun _ => true) true Try.f7.params.toList args.toList ds p := hA0
  rw [Try.params7] at hA hval
  obtain ⟨v0, vs0, d0, ds0, p0, q0, hargs, rfl, rfl, h0, r0⟩ := trodAll_cons hA
  obtain ⟨v1, vs1, d1, ds1, p1, q1, rfl, rfl, rfl, h1, r1⟩ := trodAll_cons r0
  obtain ⟨rfl, rfl, rfl⟩ := trodAll_nil r1
  obtain rfl : args = #[v0, v1] := by cases args; simp_all
  obtain ⟨rfl, rfl⟩ := trodVars_none hV
  have k0 := h0
  have lt0 : ∀ x ∈ p0, x.block < W.heap.size := by obtain ⟨m, hm⟩ := k0; exact DataW.trod_lt m _ _ _ hm
  obtain ⟨a0, len0, cap0, z0, rfl, w0⟩ := open_slice_int Try.underlying31 Try.underlying3 (by kernel_rfl) (hval 0 31 v0 rfl rfl) h0
  have k1 := h1
  have lt1 : ∀ x ∈ p1, x.block < W.heap.size := by obtain ⟨m, hm⟩ := k1; exact DataW.trod_lt m _ _ _ hm
  obtain ⟨a1, len1, cap1, rfl, w1⟩ := open_pols (hval 1 46 v1 rfl rfl) h1
  clear hA0
  refine (walk a0 len0 cap0 z0 a1 len1 cap1 w0 w1).mono fun e W' ⟨he, bel⟩ => ?_
  subst he
  exact ⟨_, rfl, _, _, _, [], _, [], hW', trodAll_mk1 (shut_bool Try.underlying4 _), (trodAll_cons_mk (Below.trod laidOut (by kernel_rfl) (of_decide_eq_true (by kernel_rfl)) k0 bel lt0) (trodAll_cons_mk (Below.trod laidOut (by kernel_rfl) (of_decide_eq_true (by kernel_rfl)) k1 bel lt1) trodAll_mk0)), rfl, bel.frame _, fun h => by cases h⟩

set_option maxRecDepth 100000 in
theorem lifted (os : Os) (started : os.Started) (H : Type) (enc : TypeId × Value → H) :
    ReturnsInHanded {} Try.checked os 7 .any (Rows.booksLiveSpec.pre6 enc Try.prog Try.f7 Rows.booksLiveRow.domain false) (Rows.booksLiveSpec.post enc Try.prog Try.f7 false true false false) := by
  refine returnsInHanded_of_change (C := Try.checked) own started (by kernel_rfl) Try.func7
    (ChangeSpec.witness6 (enc := enc) (C := Try.checked) false ⟨#[], #[.slice none 0 0, .slice none 0 0], []⟩ 8 (by kernel_rfl) (by kernel_rfl) (by kernel_rfl) (by kernel_rfl)) ?_
  intro W base args ds gs before hval hW _ _
  exact contract H enc W base args ds gs before hval hW

theorem over : Rows.booksLiveRow.holds Try.pinned (OpenSpec.ofChange Rows.booksLiveSpec) :=
  OpenClaim.holds_of_wide 7 Try.f7 rfl rfl rfl rfl rfl rfl rfl ⟨rfl, rfl, rfl, rfl, rfl⟩ rfl rfl rfl rfl rfl (by kernel_rfl) Try.func7 (by kernel_rfl)
    (of_decide_eq_true (by kernel_rfl)) (by unfold Func.isWrapper; first | (rw [if_pos (by decide +kernel)]; kernel_rfl) | (rw [if_neg (by decide +kernel)]; exact ⟨rfl, rfl⟩))
    (fun os started H enc _ => lifted os started H enc)
end Go.Proofs.Ytgdcgilhaedbmac.booksLive
namespace Go.Proofs.Ytgdcgilhaedbmac
theorem booksLive_proved : Rows.BooksLiveSaid := booksLive.over
end Go.Proofs.Ytgdcgilhaedbmac

