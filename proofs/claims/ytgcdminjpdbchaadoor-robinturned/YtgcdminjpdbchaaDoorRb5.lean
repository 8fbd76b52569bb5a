/- The contract of a table's Delete. -/
import Derived.Test.YtgcdminjpdbchaaDoorRb4
namespace Go.Proofs.YtgcdminjpdbchaaDoor
open Go.ChangeShapes Go.WideShapes Go.ChangeAt Go.RowKit
set_option linter.unusedVariables false

theorem Tryd.zeroSl (w : World) : (zeroValue 52).run Tryd.prog w = .ok (.agg #[.bool false, .string ByteArray.empty, .int .i64 0, .int .i64 0]) w := by
  have : (Tryd.prog.info? 52).map (fun i => i.zero) = some (some (.agg #[.bool false, .string ByteArray.empty, .int .i64 0, .int .i64 0])) := by kernel_rfl
  cases h : Tryd.prog.info? 52 with
  | none => rw [h] at this; cases this
  | some i => rw [h] at this; simp at this; simp [zeroValue, typeInfo, h, this]
theorem IsTb.setD {w : World} {bP bS seed bits n : Nat} {s : List RS} (h : IsTb w bP bS seed bits n s) {i : Nat} (hi : i < n) (d : Nat) : IsTb (w.setCell ⟨bS, i * 4 + 3, none⟩ (.int .i64 (d : Int))) bP bS seed bits n (s.set i { atS s i with d := d }) :=
  ⟨h.hd.apart (p := ⟨bS, i * 4 + 3, none⟩) h.ne _, by
    rw [← flatMap_set slV 4 slV_len s i 3 (by decide) (atS s i) { atS s i with d := d } (.int .i64 (d : Int)) (atS_get (by rw [h.le]; exact hi)) rfl]
    exact h.sl.store _ _, by rw [List.length_set]; exact h.le, h.ne⟩
theorem Delete_nil (k : ByteArray) (w : World) : Calls Tryd.prog 22 #[.pointer none, .string k] w fun e w' => e = .returned (.bool false) ∧ w = w' := by
  go_enter Tryd.func22, Tryd.ntmps22
  go_wp2_with fail
  refine (find_nil k w).mono ?_
  rintro e w1 ⟨rfl, rfl⟩
  go_wp2
  go_ret
  exact ⟨rfl, rfl⟩
/-- What Delete makes of a table. -/
inductive DelAt (n : Nat) (s : List RS) (k : ByteArray) : Bool → List RS → Prop where
  | no (hno : ∀ x, ¬ HasK n s k x) : DelAt n s k false s
  | yes (s' : List RS) (hy : ∃ x, HasK n s k x) (hm : ∀ k' v', HasK n s' k' v' ↔ (HasK n s k' v' ∧ k' ≠ k)) (hc : cnt s' + 1 = cnt s) : DelAt n s k true s'
def DelTold (bP bS seed bits n : Nat) (s : List RS) (k : ByteArray) (w : World) (e : Ending) (w' : World) : Prop := ∃ r s', e = .returned (.bool r) ∧ Tb w' bP bS seed bits n s' ∧ Kept (fun b => b = bS) w w' ∧ DelAt n s k r s'
theorem Tb.less {w w' : World} {bP bS seed bits n : Nat} {s s' : List RS} (h : Tb w bP bS seed bits n s) (hi : IsTb w' bP bS seed bits n s') (hw : WellT (hmK seed bits) n s') (hm : ∀ k' v', HasK n s' k' v' → HasK n s k' v') : Tb w' bP bS seed bits n s' := by
  refine { h with is := hi, we := hw, ks := fun i hi hu => ?_, vs := fun i hi => ?_ }
  · obtain ⟨j, hj, q1, q2, _⟩ := hm _ _ ⟨i, hi, hu, rfl, rfl⟩
    rw [← q2]; exact h.ks j hj q1
  · cases hu : (atS s' i).u with
    | false => rw [hw.zero i hi hu]; unfold I64 zS; simp
    | true =>
      obtain ⟨j, hj, _, _, q3⟩ := hm _ _ ⟨i, hi, hu, rfl, rfl⟩
      rw [← q3]; exact h.vs j hj
/-- Between two rounds of Delete. -/
structure DelI (hm : ByteArray → Nat) (w : World) (bP bS seed bits n : Nat) (s0 : List RS) (key : ByteArray) (z : Nat) (wr : World) (s : List RS) (a : Nat) : Prop where
  d : Del hm n s0 key z s a
  t : IsTb wr bP bS seed bits n s
  k : Kept (fun b => b = bS) w wr
set_option maxRecDepth 100000 in
set_option maxHeartbeats 4000000 in
theorem Delete_any (bP bS seed bits n : Nat) (s0 : List RS) (k : ByteArray) (w : World) (h : Tb w bP bS seed bits n s0) (ht : TabW w) (hk : k.size ≤ maxLen) :
    Calls Tryd.prog 22 #[.pointer (some ⟨bP, 0, none⟩), .string k] w (DelTold bP bS seed bits n s0 k w) := by
  have HF := Lib.hid (find_any bP bS seed bits n s0 k w h ht hk)
  have H := Lib.hid h
  have hn := h.n256
  clear h ht hk
  go_enter Tryd.func22, Tryd.ntmps22
  go_wp2_with fail
  refine HF.out.mono ?_
  rintro e w1 ⟨z, r, rfl, ⟨m, rfl⟩, hf⟩
  rcases hf with ⟨i, hi, h1, h2, rfl, rfl⟩ | ⟨h1, rfl, rfl⟩
  · obtain ⟨z, hz⟩ := Del.start H.out.we hi h1
    rw [h2] at hz
    have HZN := Lib.hid hz.zn
    have HY := Lib.hid (show ∃ x, HasK n s0 k x from ⟨_, i, hi, h1, h2, rfl⟩)
    have HI1 := Lib.hid (show DelI (hmK seed bits) w bP bS seed bits n s0 k z (w.drewN m) s0 i from ⟨hz, H.out.is.drewN m, Kept.drewN (Kept.refl _ w) m⟩)
    have HC0 := Lib.hid (next_any bP bS seed bits n s0 i _ HI1.out.t hi hn)
    clear h1 h2 hz
    generalize w.drewN m = w2 at *
    go_wp2_with fail
    refine HC0.out.mono ?_
    rintro e w3 ⟨rfl, rfl⟩
    clear HC0 HF
    go_wp2_with fail
    go_loopw [5, 7] (fun va vb wr => ∃ s a, va = .int .i64 ((a : Nat) : Int) ∧ vb = .int .i64 ((nx n a : Nat) : Int) ∧ Hid (DelI (hmK seed bits) w bP bS seed bits n s0 k z wr s a)) (fun _ vb _ => far n (intOf vb).toNat z)
    case atStart => exact ⟨s0, i, rfl, rfl, HI1⟩
    case round =>
      obtain ⟨s, a, rfl, rfl, HR⟩ := hrel
      clear HI1 hi
      have ha := HR.out.d.al
      have hb := nx_lt ha
      have q2 := HR.out.t.p2
      obtain ⟨hbm1, hbm2⟩ := HR.out.t.lt
      obtain ⟨b, hbb⟩ : ∃ b, nx n a = b := ⟨_, rfl⟩
      have HBB := Lib.hid hbb
      rw [hbb] at hb ⊢
      clear hbb
      have d0 := HR.out.t.c0 hb
      have d1 := HR.out.t.c1 hb
      have d2 := HR.out.t.c2 hb
      have d3 := HR.out.t.c3 hb
      have x0 := HR.out.t.c0 ha
      have x1 := HR.out.t.c1 ha
      have x2 := HR.out.t.c2 ha
      have x3 := HR.out.t.c3 ha
      have fS := HR.out.t.sl.loose
      obtain ⟨yu, yk, yv, yd, hy⟩ : ∃ yu yk yv yd, atS s b = ⟨yu, yk, yv, yd⟩ := ⟨_, _, _, _, rfl⟩
      obtain ⟨zu, zk, zv, zd, hz2⟩ : ∃ zu zk zv zd, atS s a = ⟨zu, zk, zv, zd⟩ := ⟨_, _, _, _, rfl⟩
      have HYE := Lib.hid hy
      rw [hy] at d0 d1 d2 d3
      rw [hz2] at x0 x1 x2 x3
      simp only at d0 d1 d2 d3 x0 x1 x2 x3
      clear hy hz2
      by_cases hd : 0 < yd
      · have hyd : yd < n := by
          cases q : yu with
          | true => have := (HR.out.d.w.home b hb (by rw [HYE.out]; exact q)).2; rw [HYE.out] at this; exact this
          | false => have := HR.out.d.w.zero b hb (by rw [HYE.out]; exact q); rw [HYE.out] at this; have e := congrArg RS.d this; simp only [zS] at e; omega
        have t1 : decide ((0 : Int) < (yd : Int)) = true := by simp; exact hd
        obtain ⟨q, rfl⟩ : ∃ q, yd = q + 1 := ⟨yd - 1, by omega⟩
        have HUP := Lib.hid (HR.out.d.up (by rw [HBB.out, HYE.out]; exact hd))
        rw [HBB.out, HYE.out] at HUP
        have HS4 := Lib.hid (HR.out.t.set4 ha ⟨yu, yk, yv, q + 1⟩)
        have HK4 := Lib.hid (((((HR.out.k.setCell (p := ⟨bS, a * 4, none⟩) (.inl rfl) (.bool yu)).setCell (p := ⟨bS, a * 4 + 1, none⟩) (.inl rfl) (.string yk)).setCell (p := ⟨bS, a * 4 + 2, none⟩) (.inl rfl) (.int .i64 yv)).setCell (p := ⟨bS, a * 4 + 3, none⟩) (.inl rfl) (.int .i64 ((q + 1 : Nat) : Int))))
        go_upto_region 7 with (fail)
        go_big_region
        have HT4 := Lib.hid (show IsTb (((((wr.setCell ⟨bS, a * 4, none⟩ (.bool yu)).setCell ⟨bS, a * 4 + 1, none⟩ (.string yk)).setCell ⟨bS, a * 4 + 2, none⟩ (.int .i64 yv)).setCell ⟨bS, a * 4 + 3, none⟩ (.int .i64 ((q : Int) + 1))).drew) bP bS seed bits n (s.set a ⟨yu, yk, yv, q + 1⟩) from HS4.out.below (Below.refl _ _).drew)
        have HK5 := Lib.hid (show Kept (fun b => b = bS) w (((((wr.setCell ⟨bS, a * 4, none⟩ (.bool yu)).setCell ⟨bS, a * 4 + 1, none⟩ (.string yk)).setCell ⟨bS, a * 4 + 2, none⟩ (.int .i64 yv)).setCell ⟨bS, a * 4 + 3, none⟩ (.int .i64 ((q : Int) + 1))).drew) from HK4.out.drew)
        clear d0 d1 d2 d3 x0 x1 x2 x3 fS q2 hbm1 hbm2 HS4 HK4 t1 hd
        generalize ((((wr.setCell ⟨bS, a * 4, none⟩ (.bool yu)).setCell ⟨bS, a * 4 + 1, none⟩ (.string yk)).setCell ⟨bS, a * 4 + 2, none⟩ (.int .i64 yv)).setCell ⟨bS, a * 4 + 3, none⟩ (.int .i64 ((q : Int) + 1))).drew = w4 at HT4 HK5 ⊢
        have hla : a < s.length := by rw [HR.out.t.le]; exact ha
        have q2 := HT4.out.p2
        obtain ⟨hbm1, hbm2⟩ := HT4.out.lt
        have x3 := HT4.out.c3 ha
        rw [atS_set _ hla, if_pos rfl] at x3
        simp only at x3
        have fS := HT4.out.sl.loose
        have HT5 := Lib.hid (show IsTb (w4.setCell ⟨bS, a * 4 + 3, none⟩ (.int .i64 (q : Int))) bP bS seed bits n (s.set a ⟨yu, yk, yv, q⟩) from by
          have := HT4.out.setD ha q
          rw [List.set_set, atS_set _ hla, if_pos rfl] at this
          exact this)
        have HI6 := Lib.hid (show DelI (hmK seed bits) w bP bS seed bits n s0 k z (w4.setCell ⟨bS, a * 4 + 3, none⟩ (.int .i64 (q : Int))) (s.set a ⟨yu, yk, yv, q⟩) b from ⟨HUP.out, HT5.out, HK5.out.setCell (p := ⟨bS, a * 4 + 3, none⟩) (.inl rfl) _⟩)
        have HC := Lib.hid (next_any bP bS seed bits n _ b _ HT5.out hb hn)
        have HFR := Lib.hid (far_nx hb HZN.out (fun e => by
          have := HR.out.d.zd
          rw [← e, HYE.out] at this
          simp at this))
        go_wp2_with fail
        refine HC.out.mono ?_
        rintro e w5 ⟨rfl, rfl⟩
        clear HC x3 fS q2 hbm1 hbm2
        go_wp2
        go_roundw
        case rel => exact ⟨_, b, rfl, rfl, HI6⟩
        case measure => simpa [intOf] using HFR.out
      · have hd0 : yd = 0 := by omega
        subst hd0
        have t1 : decide ((0 : Int) < ((0 : Nat) : Int)) = false := by simp
        have HDN := Lib.hid (HR.out.d.done (by rw [HBB.out, HYE.out]))
        have hzs := Tryd.zeroSl
        have R := Lib.hid (show DelTold bP bS seed bits n s0 k w (.returned (.bool true)) ((((wr.setCell ⟨bS, a * 4, none⟩ (.bool false)).setCell ⟨bS, a * 4 + 1, none⟩ (.string ByteArray.empty)).setCell ⟨bS, a * 4 + 2, none⟩ (.int .i64 0)).setCell ⟨bS, a * 4 + 3, none⟩ (.int .i64 0)) from by
          obtain ⟨d1, d2, d3⟩ := HDN.out
          have ht := HR.out.t.set4 ha zS
          exact ⟨true, _, rfl, H.out.less ht d1 (fun k' v' q => ((d2 k' v').1 q).1), ((((HR.out.k.setCell (p := ⟨bS, a * 4, none⟩) (.inl rfl) _).setCell (p := ⟨bS, a * 4 + 1, none⟩) (.inl rfl) _).setCell (p := ⟨bS, a * 4 + 2, none⟩) (.inl rfl) _).setCell (p := ⟨bS, a * 4 + 3, none⟩) (.inl rfl) _), .yes _ HY.out d2 d3⟩)
        go_wp2
        go_ret
        exact R.out
  · have R := Lib.hid (show DelTold bP bS seed bits n s0 k w (.returned (.bool false)) (w.drewN m) from ⟨false, s0, rfl, H.out.drewN m, Kept.drewN (Kept.refl _ w) m, .no (fun x ⟨j, hj, q1, q2, _⟩ => h1 j hj q1 q2)⟩)
    clear h1
    go_wp2
    go_ret
    exact R.out
end Go.Proofs.YtgcdminjpdbchaaDoor
