/- For all bytes and all cuts the law FrameCuts returns true: however bytes are cut into chunks, the same pieces come, in the same order, as of all bytes at once; and as many are left. -/
import Derived.Test.YtgcdminjpdbchabFr10
import Derived.Test.YtgcdminjpdbchabRows
import Derived.ShutString
import Derived.BigQuiet
namespace Go.Proofs.Ytgcdminjpdbchab.frameCuts
open Go.ChangeShapes Go.WideShapes Go.ChangeAt Go.RowKit
open Go.ChangeMaps (open_string shut_string)
set_option linter.unusedVariables false

theorem ints_at {w : World} {A : Option Addr} {len cap : Nat} {zs : List Int} (h : IsInts .i64 w A len cap zs) : len ≤ cap ∧ cap ≤ maxLen ∧ (0 < len → ∃ b off, A = some ⟨b, off, none⟩ ∧ b < w.heap.size ∧ ∀ i, i < len → w.cell? ⟨b, off + i, none⟩ = some (.int .i64 (zs.getD i 0))) := by
  rcases h with ⟨rfl, rfl, rfl, rfl⟩ | ⟨⟨b, off, spot⟩, rfl, h1, h2, h3, h4, h5⟩
  · exact ⟨Nat.le_refl _, Nat.zero_le _, fun h => absurd h (by omega)⟩
  · refine ⟨h1, h2, fun h0 => ?_⟩
    have hs0 := h4 0 (by omega)
    have hspot : spot = none := by simpa [Addr.add] using World.cell?_spot hs0
    subst hspot
    have e2 : ∀ b off i, (⟨b, off, none⟩ : Addr).add i = ⟨b, off + i, none⟩ := fun b off i => by unfold Addr.add; split <;> simp_all
    refine ⟨b, off, rfl, ?_, fun i hi => ?_⟩
    · have := block_lt_of_cell hs0
      rw [e2] at this
      exact this
    · have := h4 i (by omega)
      rw [e2] at this
      exact this
/-- Behind a place of the bytes. -/
structure CI (W : World) (s : ByteArray) (r1 : Nat) (v1 : Value) (r2 : Nat) (x : Value) (Bx B2 : Nat) (a : Nat) (v2 p : Value) (w : World) : Prop where
  t : Two W w r1 v1 (FrS.new.run s.data.toList).1 r2 v2 (FrS.new.run (s.data.toList.take a)).1
  xr : OwnPr Bx 37 w x (FrS.new.run s.data.toList).2
  xb : ∀ b, x.ownBlock = some b → b < B2
  pr : OwnPr B2 37 w p (FrS.new.run (s.data.toList.take a)).2
  b1 : W.heap.size ≤ B2
  b2 : B2 ≤ w.heap.size
def mid (s : ByteArray) (a e : Nat) : List UInt8 := (s.extract a e).data.toList
theorem take_mid (s : ByteArray) (a e : Nat) (h : a ≤ e) : s.data.toList.take e = s.data.toList.take a ++ mid s a e := by
  obtain ⟨m, rfl⟩ : ∃ m, e = a + m := ⟨e - a, by omega⟩
  unfold mid
  rw [sub_list, List.take_add]
theorem CI.fed {W : World} {s : ByteArray} {r1 : Nat} {v1 : Value} {r2 : Nat} {x : Value} {Bx B2 a e : Nat} {v2 v3 p p' : Value} {w w4 w5 : World} (h : CI W s r1 v1 r2 x Bx B2 a v2 p w) (hae : a ≤ e)
    (ht : RdT w r2 v2 ((FrS.new.run (s.data.toList.take a)).1.run (mid s a e)).1 v3 w4) (ho : OwnPr B2 37 w5 p' ((FrS.new.run (s.data.toList.take a)).2 ++ ((FrS.new.run (s.data.toList.take a)).1.run (mid s a e)).2)) (hk : Kept (fun b => p.ownBlock = some b) w4 w5) : CI W s r1 v1 r2 x Bx B2 e v3 p' w5 := by
  have e1 : FrS.new.run (s.data.toList.take e) = (((FrS.new.run (s.data.toList.take a)).1.run (mid s a e)).1, (FrS.new.run (s.data.toList.take a)).2 ++ ((FrS.new.run (s.data.toList.take a)).1.run (mid s a e)).2) := by rw [take_mid s a e hae, run_append]
  have t4 := (h.t.swap.fed ht).swap
  have p4 := h.pr.beside h.t.m2.t ht (by decide) (by decide)
  have x4 := h.xr.beside h.t.m2.t ht (by decide) (by decide)
  refine ⟨by rw [e1]; exact t4.kept p4 hk (by decide) (by decide) h.b1, x4.kept hk (fun b hb q => ?_), h.xb, by rw [e1]; exact ho, h.b1, Nat.le_trans h.b2 (Nat.le_trans ht.kp.size hk.size)⟩
  have := h.xb b hb
  have := (owns_lt p4 q).1
  omega
theorem run_mid (s : ByteArray) (a e : Nat) (h1 : a ≤ e) (h2 : e ≤ s.size) (W : World) : (Instr.slice 9 (.string s) (some (.int .i64 (a : Int))) (some (.int .i64 (e : Int))) none).run Try.prog W = .ok (.string (s.extract a e)) W := by
  rw [run_slice_string _ _ _ _ _ _ _ Try.underlying9 (by omega) (by omega) (by omega), Int.toNat_natCast, Int.toNat_natCast]
theorem run_end (s : ByteArray) (a : Nat) (h : a ≤ s.size) (W : World) : (Instr.slice 9 (.string s) (some (.int .i64 (a : Int))) none none).run Try.prog W = .ok (.string (s.extract a s.size)) W := by
  have h' : (a : Int) ≤ s.size := by omega
  go_simp
  try (intro q; omega)
theorem mid_size (s : ByteArray) (a e : Nat) : (s.extract a e).size ≤ s.size := by rw [ByteArray.size_extract]; omega
set_option maxRecDepth 100000 in
set_option maxHeartbeats 0 in
theorem walk (s : ByteArray) (A : Option Addr) (len cap : Nat) (zs : List Int) (hs : s.size ≤ maxLen) {W : World} (hw : IsInts .i64 W A len cap zs) : Calls Try.prog 4 #[.string s, .slice A len cap] W fun e w' => e = .returned (.bool true) ∧ Below W.heap.size W w' := by
  obtain ⟨q1, q2, q3⟩ := ints_at hw
  clear hw
  unfold maxLen at hs q2
  have HQ := Lib.hid q3
  clear q3
  by_cases h1 : 4000 < s.size
  · have d1 : decide ((4000 : Int) < s.size) = true := decide_eq_true (by omega)
    have d2 : (4000 : Int) < s.size := by omega
    go_enter Try.func4, Try.ntmps4
    go_wp2_with fail
    refine (live_any W).mono ?_
    rintro e w1 ⟨rfl, hb⟩
    go_wp2
    go_ret
    exact ⟨rfl, hb⟩
  · have d1 : decide ((4000 : Int) < s.size) = false := decide_eq_false (by omega)
    have d2 : ¬ (4000 : Int) < s.size := by omega
    by_cases h2 : 40 < len
    · have d3 : decide ((40 : Int) < len) = true := decide_eq_true (by omega)
      have d4 : (40 : Int) < len := by omega
      go_enter Try.func4, Try.ntmps4
      go_wp2_with fail
      refine (live_any W).mono ?_
      rintro e w1 ⟨rfl, hb⟩
      go_wp2
      go_ret
      exact ⟨rfl, hb⟩
    · have d3 : decide ((40 : Int) < len) = false := decide_eq_false (by omega)
      have d4 : ¬ (40 : Int) < len := by omega
      go_enter Try.func4, Try.ntmps4
      go_wp2_with fail
      refine (New_any W).mono ?_
      rintro e w2 ⟨rfl, hr, hb, hlt1⟩
      have M2 := Lib.hid (show Mn W w2 W.heap.size (.slice none 0 0) FrS.new from ⟨hr, hb, Nat.le_refl _, fun b hb => by simp [Value.ownBlock] at hb⟩)
      clear hr hb hlt1 d1 d2 d3 d4
      generalize W.heap.size = r1 at M2 ⊢
      go_wp2_with fail
      refine (New_any w2).mono ?_
      rintro e w3 ⟨rfl, hr, hb, hlt1⟩
      have T3 := Lib.hid (Two.two M2.out hr rfl rfl hb)
      clear hr hb hlt1 M2
      generalize w2.heap.size = r2 at T3 ⊢
      go_wp2_with fail
      refine (Feed_any w3 r1 _ _ s (by omega) T3.out.m1.t).mono ?_
      rintro e w4 ⟨x, v1, rfl, hx, hk⟩
      obtain ⟨q, eq⟩ : ∃ q, (FrS.new.run s.data.toList).2.length = q := ⟨_, rfl⟩
      obtain ⟨A1, c7, hxv, _, _, _⟩ := hx.at_
      rw [eq] at hxv
      subst hxv
      have HEQ := Lib.hid eq
      clear eq
      have C4 := Lib.hid (show CI W s r1 v1 r2 (.slice A1 q c7) w3.heap.size w4.heap.size 0 (.slice none 0 0) (.slice none 0 0) w4 from ⟨T3.out.fed hk, hx, fun b hb => (owns_lt hx hb).2.1, OwnPr.nil _ _ _, (T3.out.fed hk).m1.b.size, Nat.le_refl _⟩)
      clear hx hk T3
      generalize w3.heap.size = Bx at C4
      generalize w4.heap.size = B2 at C4
      go_wp2_with fail
      go_loopw [8, 9, 10] (fun p t i wr => ∃ (k a : Nat) (v2 : Value), k ≤ len ∧ a ≤ s.size ∧ t = .int .i64 (a : Int) ∧ i = .int .i64 (k : Int) ∧ Hid (CI W s r1 v1 r2 (.slice A1 q c7) Bx B2 a v2 p wr)) (fun _ _ i _ => len - (intOf i).toNat)
      case atStart => exact ⟨0, 0, _, Nat.zero_le _, Nat.zero_le _, rfl, rfl, C4⟩
      case round =>
        obtain ⟨k, a, v2, hk, ha, rfl, rfl, HC⟩ := hrel
        clear C4
        by_cases hlt : k < len
        · obtain ⟨b, off, rfl, hbw, hall⟩ := HQ.out (by omega)
          have x1 : wr.cell? ⟨b, off + k, none⟩ = some (.int .i64 (zs.getD k 0)) := by rw [HC.out.t.m1.b.cell (p := ⟨b, off + k, none⟩) hbw]; exact (hall k hlt)
          have HCL := Lib.hid (fun (w' : World) (hb : Below W.heap.size W w') => show w'.cell? ⟨b, off + k, none⟩ = some (.int .i64 (zs.getD k 0)) from by rw [hb.cell (p := ⟨b, off + k, none⟩) hbw]; exact (hall k hlt))
          generalize zs.getD k 0 = z at x1 HCL
          clear hall hbw
          by_cases g1 : (a : Int) < z
          · have e1 : decide ((a : Int) < z) = true := decide_eq_true g1
            by_cases g2 : z ≤ (s.size : Int)
            · obtain ⟨e, rfl⟩ : ∃ e : Nat, z = (e : Int) := ⟨z.toNat, by omega⟩
              have e2 : decide ((e : Int) ≤ (s.size : Int)) = true := decide_eq_true g2
              have HRM := run_mid s a e (by omega) (by omega)
              obtain ⟨N, eN⟩ : ∃ N, ((FrS.new.run (s.data.toList.take a)).1.run (mid s a e)).2 = N := ⟨_, rfl⟩
              obtain ⟨n, en⟩ : ∃ n, N.length = n := ⟨_, rfl⟩
              obtain ⟨L0, eL⟩ : ∃ L0, (FrS.new.run (s.data.toList.take a)).2 = L0 := ⟨_, rfl⟩
              obtain ⟨l0, el⟩ : ∃ l0, L0.length = l0 := ⟨_, rfl⟩
              have hl0 : l0 ≤ 4000 := by
                have := run_len (s.data.toList.take a) FrS.new
                rw [eL, el, List.length_take] at this
                omega
              have hn0 : n ≤ 4000 := by
                have h1 := run_len (mid s a e) (FrS.new.run (s.data.toList.take a)).1
                have h2 : (mid s a e).length ≤ s.size := by unfold mid; rw [Array.length_toList]; exact mid_size s a e
                rw [eN, en] at h1
                omega
              have HF := Lib.hid (Feed_any wr r2 v2 _ (s.extract a e) (by have := mid_size s a e; omega) HC.out.t.m2.t)
              have HEN := Lib.hid eN
              have HLN := Lib.hid en
              have HEL := Lib.hid eL
              have HLL := Lib.hid (show L0.length + N.length = l0 + n by rw [el, en])
              clear eN en eL el
              go_wp2_with (first | (go_at_call 11; refine HF.out.mono ?_; rintro ex w5 ⟨yv, v3, rfl, hy, ht⟩; rw [show ((FrS.new.run (s.data.toList.take a)).1.run (s.extract a e).data.toList).2 = N from HEN.out] at hy; obtain ⟨A5, c5, hyv, _, _, hA5⟩ := hy.at_; rw [HLN.out] at hyv; subst hyv; have HT := Lib.hid ht; have P5 := Lib.hid (HC.out.pr.beside HC.out.t.m2.t ht (by decide) (by decide)); rw [HEL.out] at P5; have HA5 := Lib.hid hA5; have HB5 := Lib.hid (Nat.le_trans HC.out.b2 ht.kp.size); have c5' := HCL.out w5 ((HC.out.t.swap.fed ht).m1.b); clear hy ht hA5) | (at_builtin; refine wpList_append_pr B2 Try.underlying31 infoPiece w5 rfl _ _ rfl u8 L0 N A5 n c5 (l0 + n) HLL.out rfl rfl HLN.out P5.out HA5.out HB5.out (by omega) ?_; intro A6 c6 w6 ho hk6 hfr; have HZ := Lib.hid (HC.out.fed (show a ≤ e by omega) HT.out (by rw [HEL.out, show ((FrS.new.run (s.data.toList.take a)).1.run (mid s a e)).2 = N from HEN.out]; exact ho) hk6); have c6' := HCL.out w6 HZ.out.t.m1.b; clear ho hk6 hfr))
              go_roundw
              case rel => exact ⟨k + 1, e, v3, by omega, by omega, rfl, by go_num, HZ⟩
              case measure => simp [intOf]; omega
            · have e2 : decide (z ≤ (s.size : Int)) = false := decide_eq_false g2
              go_wp2_with fail
              go_roundw
              case rel => exact ⟨k + 1, a, v2, by omega, ha, rfl, by go_num, HC⟩
              case measure => simp [intOf]; omega
          · have e1 : decide ((a : Int) < z) = false := decide_eq_false g1
            go_wp2_with fail
            go_roundw
            case rel => exact ⟨k + 1, a, v2, by omega, ha, rfl, by go_num, HC⟩
            case measure => simp [intOf]; omega
        · have HRE := run_end s a ha
          obtain rfl : k = len := by omega
          obtain ⟨N, eN⟩ : ∃ N, ((FrS.new.run (s.data.toList.take a)).1.run (mid s a s.size)).2 = N := ⟨_, rfl⟩
          obtain ⟨n, en⟩ : ∃ n, N.length = n := ⟨_, rfl⟩
          obtain ⟨L0, eL⟩ : ∃ L0, (FrS.new.run (s.data.toList.take a)).2 = L0 := ⟨_, rfl⟩
          obtain ⟨l0, el⟩ : ∃ l0, L0.length = l0 := ⟨_, rfl⟩
          have hl0 : l0 ≤ 4000 := by
            have := run_len (s.data.toList.take a) FrS.new
            rw [eL, el, List.length_take] at this
            omega
          have hn0 : n ≤ 4000 := by
            have h1 := run_len (mid s a s.size) (FrS.new.run (s.data.toList.take a)).1
            have h2 : (mid s a s.size).length ≤ s.size := by unfold mid; rw [Array.length_toList]; exact mid_size s a s.size
            rw [eN, en] at h1
            omega
          have HF := Lib.hid (Feed_any wr r2 v2 _ (s.extract a s.size) (by have := mid_size s a s.size; omega) HC.out.t.m2.t)
          have HEN := Lib.hid eN
          have HLN := Lib.hid en
          have HEL := Lib.hid eL
          have hall : s.data.toList.take s.size = s.data.toList := List.take_of_length_le (by rw [Array.length_toList]; exact Nat.le_refl _)
          have h9 : (FrS.new.run s.data.toList).2 = L0 ++ N := by
            have := congrArg (fun z => (FrS.new.run z).2) (hall.symm.trans (take_mid s a s.size ha))
            rw [this, run_append, eL, eN]
          have HLL := Lib.hid (show L0.length + N.length = q by rw [← List.length_append, ← h9]; exact HEQ.out)
          have hq8 : q ≤ 8000 := by rw [← HLL.out, el, en]; omega
          clear eN en eL el h9
          go_wp2_with (first | (go_at_call 11; refine HF.out.mono ?_; rintro ex w5 ⟨yv, v3, rfl, hy, ht⟩; rw [show ((FrS.new.run (s.data.toList.take a)).1.run (s.extract a s.size).data.toList).2 = N from HEN.out] at hy; obtain ⟨A5, c5, hyv, _, _, hA5⟩ := hy.at_; rw [HLN.out] at hyv; subst hyv; have HT := Lib.hid ht; have P5 := Lib.hid (HC.out.pr.beside HC.out.t.m2.t ht (by decide) (by decide)); rw [HEL.out] at P5; have HA5 := Lib.hid hA5; have HB5 := Lib.hid (Nat.le_trans HC.out.b2 ht.kp.size); clear hy ht hA5) | (at_builtin; refine wpList_append_pr B2 Try.underlying31 infoPiece w5 rfl _ _ rfl u8 L0 N A5 n c5 q HLL.out rfl rfl HLN.out P5.out HA5.out HB5.out (by omega) ?_; intro A6 c6 w6 ho hk6 hfr; have HZ := Lib.hid (HC.out.fed ha HT.out (by rw [HEL.out, show ((FrS.new.run (s.data.toList.take a)).1.run (mid s a s.size)).2 = N from HEN.out]; exact ho) hk6); clear ho hk6 hfr))
          have HW := Lib.hid (show CI W s r1 v1 r2 (.slice A1 q c7) Bx B2 s.size v3 (.slice A6 q c6) w6 from HZ.out)
          have TW := HZ.out.t
          have PW := HZ.out.pr
          rw [hall] at TW PW
          obtain ⟨Q, eQ⟩ : ∃ Q, (FrS.new.run s.data.toList).2 = Q := ⟨_, rfl⟩
          obtain ⟨S, eS⟩ : ∃ S, (FrS.new.run s.data.toList).1 = S := ⟨_, rfl⟩
          have eq : Q.length = q := by rw [← eQ]; exact HEQ.out
          have XW := HZ.out.xr
          rw [eQ] at XW PW
          rw [eS] at TW
          obtain ⟨A1', c7', hxv, _, _, ha1⟩ := XW.at_
          obtain rfl : A1 = A1' := by injection hxv
          obtain ⟨A2, c8, hpv, _, _, ha2⟩ := PW.at_
          obtain rfl : A6 = A2 := by injection hpv
          have HAL := Lib.hid (show Alike w6 A1 A6 Q from ⟨ha1, ha2⟩)
          have HLQ := Lib.hid eq
          obtain ⟨zz, ez⟩ : ∃ zz, (S.k.length : Int) = zz := ⟨_, rfl⟩
          have L1 := Lib.hid (Left_at w6 r1 v1 S zz TW.m1.t ez)
          have L2 := Lib.hid (Left_at w6 r2 v3 S zz TW.m2.t ez)
          have HB6 := Lib.hid TW.m1.b
          clear hxv HZ HW TW PW XW HC HF HEN HLN HEL HLL HT P5 HA5 HB5 hpv ha1 ha2 ez hall HRE eQ eS eq
          go_wp2_with (first | (go_at_call 12; first | (with_reducible refine Calls.mono L1.out ?_; rintro e w7 ⟨rfl, rfl⟩) | (with_reducible refine Calls.mono L2.out ?_; rintro e w7 ⟨rfl, rfl⟩)))
          clear L1 L2
          go_loopw [11] (fun i wr => ∃ j : Nat, j ≤ q ∧ i = .int .i64 (j : Int) ∧ ∃ m, wr = w6.drewN m) (fun i _ => q - (intOf i).toNat)
          case atStart => exact ⟨0, Nat.zero_le _, rfl, 0, rfl⟩
          case round =>
            obtain ⟨j, hj, rfl, m, hw⟩ := hrel
            have HAW := Lib.hid (show Alike wr A1 A6 Q from by rw [hw]; exact HAL.out.drewN m)
            have HW := Lib.hid hw
            clear hw
            by_cases hlt : j < q
            · obtain ⟨b1, o1, b2, o2, sx, zx, rfl, rfl, x1, x2, x3, x4⟩ := HAW.out.four (j := j) (by rw [HLQ.out]; exact hlt)
              clear HAW
              go_wp2_with fail
              go_quiet (fail)
              go_wp2
              go_roundw
              case rel => exact ⟨j + 1, by omega, by go_num, _, by rw [HW.out, World.drewN_drewN]⟩
              case measure => simp [intOf]; omega
            · have HBR := Lib.hid (show Below W.heap.size W wr from by rw [HW.out]; exact below_drewN HB6.out m)
              clear HAW HAL
              go_wp2_with fail
              refine (live_any wr).mono ?_
              rintro e w7 ⟨rfl, hb⟩
              have HZ := Lib.hid (HBR.out.trans (hb.mono HBR.out.size))
              clear hb
              go_wp2
              go_ret
              exact ⟨rfl, HZ.out⟩
theorem own : ownKnob Try.prog.godebug = none := by kernel_rfl
theorem laidOut : laidOutB Try.prog = true := by kernel_rfl
theorem contract (H : Type) (enc : TypeId × Value → H) (W : World) (base : Nat) (args : Array Value) (ds gs : List (DataW H)) (before : List MemPlace)
    (hval : ∀ (j : Nat) t v, Try.f4.params[j]? = some t → args[j]? = some v → Value.okWide Try.prog W .any base t v)
    (hW : DataW.Whole enc Try.prog Try.f4.params.toList Rows.frameCutsSpec.vars false W args.toList ds gs before) :
    Calls Try.prog 4 args W fun e W' => ∃ v, e = .returned v ∧ Rows.frameCutsSpec.post enc Try.prog Try.f4 false true false false W args v W' := by
  have hW' := hW
  obtain ⟨p, q, hA0, hV, rfl, hfz, hnd⟩ := hW
  have hA : DataW.TrodAll enc Try.prog W 0 (fun _ => true) true Try.f4.params.toList args.toList ds p := hA0
  rw [Try.params4] at hA hval
  obtain ⟨v0, vs0, d0, ds0, p0, q0, hargs, rfl, rfl, h0, r0⟩ := trodAll_cons hA
  obtain ⟨v1, vs1, d1, ds1, p1, q1, rfl, rfl, rfl, h1, r1⟩ := trodAll_cons r0
  obtain ⟨rfl, rfl, rfl⟩ := trodAll_nil r1
  obtain rfl : args = #[v0, v1] := by cases args; simp_all
  obtain ⟨rfl, rfl⟩ := trodVars_none hV
  obtain ⟨a0, rfl, rfl, rfl, w0⟩ := open_string Try.underlying9 (hval 0 9 v0 rfl rfl) h0
  have k1 := h1
  have lt1 : ∀ x ∈ p1, x.block < W.heap.size := by obtain ⟨m, hm⟩ := k1; exact DataW.trod_lt m _ _ _ hm
  obtain ⟨a1, len1, cap1, z1, rfl, w1⟩ := open_slice_int Try.underlying34 Try.underlying3 (by kernel_rfl) (hval 1 34 v1 rfl rfl) h1
  clear hA0
  refine (walk a0 a1 len1 cap1 z1 w0 w1).mono fun e W' ⟨he, bel⟩ => ?_
  subst he
  exact ⟨_, rfl, _, _, _, [], _, [], hW', trodAll_mk1 (shut_bool Try.underlying4 _), (trodAll_cons_mk (shut_string Try.underlying9 w0) (trodAll_cons_mk (Below.trod laidOut (by kernel_rfl) (of_decide_eq_true (by kernel_rfl)) k1 bel lt1) trodAll_mk0)), rfl, bel.frame _, fun h => by cases h⟩

set_option maxRecDepth 100000 in
theorem lifted (os : Os) (started : os.Started) (H : Type) (enc : TypeId × Value → H) :
    ReturnsInHanded {} Try.checked os 4 .any (Rows.frameCutsSpec.pre6 enc Try.prog Try.f4 Rows.frameCutsRow.domain false) (Rows.frameCutsSpec.post enc Try.prog Try.f4 false true false false) := by
  refine returnsInHanded_of_change (C := Try.checked) own started (by kernel_rfl) Try.func4
    (ChangeSpec.witness6 (enc := enc) (C := Try.checked) false ⟨#[], #[.string .empty, .slice none 0 0], []⟩ 8 (by kernel_rfl) (by kernel_rfl) (by kernel_rfl) (by kernel_rfl)) ?_
  intro W base args ds gs before hval hW _ _
  exact contract H enc W base args ds gs before hval hW

theorem over : Rows.frameCutsRow.holds Try.pinned (OpenSpec.ofChange Rows.frameCutsSpec) :=
  OpenClaim.holds_of_wide 4 Try.f4 rfl rfl rfl rfl rfl rfl rfl ⟨rfl, rfl, rfl, rfl, rfl⟩ rfl rfl rfl rfl rfl (by kernel_rfl) Try.func4 (by kernel_rfl)
    (of_decide_eq_true (by kernel_rfl)) (by unfold Func.isWrapper; first | (rw [if_pos (by decide +kernel)]; kernel_rfl) | (rw [if_neg (by decide +kernel)]; exact ⟨rfl, rfl⟩))
    (fun os started H enc _ => lifted os started H enc)
end Go.Proofs.Ytgcdminjpdbchab.frameCuts
namespace Go.Proofs.Ytgcdminjpdbchab
theorem frameCuts_proved : Rows.FrameCutsSaid := frameCuts.over
end Go.Proofs.Ytgcdminjpdbchab

