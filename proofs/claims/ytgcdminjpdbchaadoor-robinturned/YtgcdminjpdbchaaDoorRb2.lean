/- The contract of a table's insert. -/
import Derived.Test.YtgcdminjpdbchaaDoorRb1
import Derived.Deep.DeepCutAuto
import Derived.BigRegion
namespace Go.Proofs.YtgcdminjpdbchaaDoor
open Go.ChangeShapes Go.WideShapes Go.ChangeAt Go.RowKit
set_option linter.unusedVariables false

theorem slCells {w : World} {g : Nat} {t : TypeId} {x : RS} (h : Has w g t (slV x)) : w.cell? ⟨g, 0, none⟩ = some (.bool x.u) ∧ w.cell? ⟨g, 1, none⟩ = some (.string x.k) ∧ w.cell? ⟨g, 2, none⟩ = some (.int .i64 x.v) ∧ w.cell? ⟨g, 3, none⟩ = some (.int .i64 (x.d : Int)) := ⟨h.cell 0, h.cell 1, h.cell 2, h.cell 3⟩
/-- Between two rounds of insert. -/
structure InsI (hm : ByteArray → Nat) (w : World) (bP bS seed bits n : Nat) (s0 : List RS) (c0 : RS) (f H : Nat) (wr : World) (s : List RS) (c : RS) (a : Nat) : Prop where
  i : Ins hm n s0 c0 f s c a
  t : IsTb wr bP bS seed bits n s
  h : Has wr H 52 (slV c)
  k : Kept (fun b => b = bS) w wr
section
variable {hm : ByteArray → Nat} {w wr : World} {bP bS seed bits n f H a : Nat} {s0 s : List RS} {c0 c : RS}
theorem InsI.kin (hne : bS ≠ H ∧ bP ≠ H) (hH : w.heap.size ≤ H) (h : InsI hm w bP bS seed bits n s0 c0 f H wr s c a) (i : Nat) (u : Value) : IsTb (wr.setCell ⟨H, i, none⟩ u) bP bS seed bits n s ∧ Kept (fun b => b = bS) w (wr.setCell ⟨H, i, none⟩ u) :=
  ⟨h.t.kept (F := fun b => b = H) ((Kept.refl (fun b => b = H) wr).setCell (p := ⟨H, i, none⟩) (.inl rfl) u) hne.2 hne.1, h.k.setCell (p := ⟨H, i, none⟩) (.inr hH) u⟩
/-- One further from home, in the next slot. -/
theorem InsI.bump (h : InsI hm w bP bS seed bits n s0 c0 f H wr s c a) (hne : bS ≠ H ∧ bP ≠ H) (hH : w.heap.size ≤ H) (m : Nat) (hu : (atS s a).u = true) (hd : c.d ≤ (atS s a).d) :
    InsI hm w bP bS seed bits n s0 c0 f H ((wr.drewN m).setCell ⟨H, 3, none⟩ (.int .i64 ((c.d : Int) + 1))) s { c with d := c.d + 1 } (nx n a) := by
  have h' : InsI hm w bP bS seed bits n s0 c0 f H (wr.drewN m) s c a := ⟨h.i, h.t.drewN m, h.h.drewN m, h.k.drewN m⟩
  obtain ⟨q1, q2⟩ := h'.kin hne hH 3 (.int .i64 ((c.d : Int) + 1))
  exact ⟨h.i.on hu hd, q1, h'.h.store 3 (.int .i64 ((c.d : Int) + 1)), q2⟩
theorem InsI.swapped (h : InsI hm w bP bS seed bits n s0 c0 f H wr s c a) (hne : bS ≠ H ∧ bP ≠ H) (hH : w.heap.size ≤ H) (m : Nat) (hu : (atS s a).u = true) (hd : (atS s a).d < c.d) :
    InsI hm w bP bS seed bits n s0 c0 f H (((((((((wr.drewN m).setCell ⟨bS, a * 4, none⟩ (.bool c.u)).setCell ⟨bS, a * 4 + 1, none⟩ (.string c.k)).setCell ⟨bS, a * 4 + 2, none⟩ (.int .i64 c.v)).setCell ⟨bS, a * 4 + 3, none⟩ (.int .i64 (c.d : Int))).setCell ⟨H, 0, none⟩ (.bool (atS s a).u)).setCell ⟨H, 1, none⟩ (.string (atS s a).k)).setCell ⟨H, 2, none⟩ (.int .i64 (atS s a).v)).setCell ⟨H, 3, none⟩ (.int .i64 ((atS s a).d : Int))) (s.set a c) (atS s a) a := by
  have hS : H ≠ bS := fun e => hne.1 e.symm
  refine ⟨h.i.swap hu hd, ?_, ?_, ?_⟩
  · exact ((h.t.drewN m).set4 h.i.lt c).kept (F := fun b => b = H) (((((Kept.refl (fun b => b = H) _).setCell (p := ⟨H, 0, none⟩) (.inl rfl) _).setCell (p := ⟨H, 1, none⟩) (.inl rfl) _).setCell (p := ⟨H, 2, none⟩) (.inl rfl) _).setCell (p := ⟨H, 3, none⟩) (.inl rfl) _) hne.2 hne.1
  · have q := ((((((((h.h.drewN m).apart (p := ⟨bS, a * 4, none⟩) hS (.bool c.u)).apart (p := ⟨bS, a * 4 + 1, none⟩) hS (.string c.k)).apart (p := ⟨bS, a * 4 + 2, none⟩) hS (.int .i64 c.v)).apart (p := ⟨bS, a * 4 + 3, none⟩) hS (.int .i64 (c.d : Int))).store 0 (.bool (atS s a).u)).store 1 (.string (atS s a).k)).store 2 (.int .i64 (atS s a).v)).store 3 (.int .i64 ((atS s a).d : Int))
    exact q
  · exact ((((((((h.k.drewN m).setCell (p := ⟨bS, a * 4, none⟩) (.inl rfl) _).setCell (p := ⟨bS, a * 4 + 1, none⟩) (.inl rfl) _).setCell (p := ⟨bS, a * 4 + 2, none⟩) (.inl rfl) _).setCell (p := ⟨bS, a * 4 + 3, none⟩) (.inl rfl) _).setCell (p := ⟨H, 0, none⟩) (.inr hH) _).setCell (p := ⟨H, 1, none⟩) (.inr hH) _).setCell (p := ⟨H, 2, none⟩) (.inr hH) _).setCell (p := ⟨H, 3, none⟩) (.inr hH) _
theorem InsI.put (h : InsI hm w bP bS seed bits n s0 c0 f H wr s c a) : IsTb ((((wr.setCell ⟨bS, a * 4, none⟩ (.bool c.u)).setCell ⟨bS, a * 4 + 1, none⟩ (.string c.k)).setCell ⟨bS, a * 4 + 2, none⟩ (.int .i64 c.v)).setCell ⟨bS, a * 4 + 3, none⟩ (.int .i64 (c.d : Int))).drew bP bS seed bits n (s.set a c) ∧
    Kept (fun b => b = bS) w ((((wr.setCell ⟨bS, a * 4, none⟩ (.bool c.u)).setCell ⟨bS, a * 4 + 1, none⟩ (.string c.k)).setCell ⟨bS, a * 4 + 2, none⟩ (.int .i64 c.v)).setCell ⟨bS, a * 4 + 3, none⟩ (.int .i64 (c.d : Int))).drew :=
  ⟨(h.t.set4 h.i.lt c).below (Below.refl _ _).drew, ((((h.k.setCell (p := ⟨bS, a * 4, none⟩) (.inl rfl) _).setCell (p := ⟨bS, a * 4 + 1, none⟩) (.inl rfl) _).setCell (p := ⟨bS, a * 4 + 2, none⟩) (.inl rfl) _).setCell (p := ⟨bS, a * 4 + 3, none⟩) (.inl rfl) _).drew⟩
end
set_option maxRecDepth 100000 in
set_option maxHeartbeats 4000000 in
theorem insert_any (bP bS seed bits n f : Nat) (s0 : List RS) (ck : ByteArray) (cv : Int) (w : World) (h : Tb w bP bS seed bits n s0) (ht : TabW w) (hk : ck.size ≤ maxLen) (hno : ∀ i, i < n → (atS s0 i).u = true → (atS s0 i).k ≠ ck) (hf : f < n) (hfu : (atS s0 f).u = false) :
    Calls Tryd.prog 33 #[.pointer (some ⟨bP, 0, none⟩), .agg #[.bool true, .string ck, .int .i64 cv, .int .i64 0]] w fun e w' => e = .returned (.tuple #[]) ∧ Hid (∃ s c a, Ins (hmK seed bits) n s0 ⟨true, ck, cv, 0⟩ f s c a ∧ (atS s a).u = false ∧ IsTb w' bP bS seed bits n (s.set a c) ∧ Kept (fun b => b = bS) w w') := by
  have hn := h.n256
  have HI0 := Lib.hid (Ins.start (c := ⟨true, ck, cv, 0⟩) h.we rfl rfl hno hf hfu)
  have hh : hmF seed bits ck < n := hmF_lt h.sd h.b8 h.nn ck hk
  have HB := Lib.hid (show Has (w.alloc (.cells #[.bool true, .string ck, .int .i64 cv, .int .i64 0] 52)) w.heap.size 52 (slV ⟨true, ck, cv, 0⟩) from Has.made w 52 (slV ⟨true, ck, cv, 0⟩))
  have hA := h.is.below ((Below.refl _ w).alloc (Nat.le_refl _) (.cells #[.bool true, .string ck, .int .i64 cv, .int .i64 0] 52))
  have HT := Lib.hid hA
  have HM := Lib.hid (home_any bP bS seed bits n s0 ck _ hA (ht.below ((Below.refl _ w).alloc (Nat.le_refl _) (.cells #[.bool true, .string ck, .int .i64 cv, .int .i64 0] 52))) h.sd hk h.b1 h.b8)
  have HE := Lib.hid (hmK_of (seed := seed) (bits := bits) hk)
  obtain ⟨hb1, hb2⟩ := h.is.lt
  have HN := Lib.hid h.is.ne
  clear h ht hno hA
  obtain ⟨x0, x1, x2, x3⟩ := slCells HB.out
  have HK0 := Lib.hid (show Kept (fun b => b = bS) w (w.alloc (.cells #[.bool true, .string ck, .int .i64 cv, .int .i64 0] 52)) from (Kept.refl _ w).alloc _)
  go_enter Tryd.func33, Tryd.ntmps33
  go_wp2_with fail
  refine HM.out.mono ?_
  rintro e w1 ⟨rfl, m, rfl⟩
  have HI1 := Lib.hid (show InsI (hmK seed bits) w bP bS seed bits n s0 ⟨true, ck, cv, 0⟩ f w.heap.size ((w.alloc (.cells #[.bool true, .string ck, .int .i64 cv, .int .i64 0] 52)).drewN m) s0 ⟨true, ck, cv, 0⟩ (hmF seed bits ck) from ⟨by rw [← HE.out]; exact HI0.out, HT.out.drewN m, HB.out.drewN m, HK0.out.drewN m⟩)
  generalize (w.alloc (.cells #[.bool true, .string ck, .int .i64 cv, .int .i64 0] 52)).drewN m = w2 at HI1 ⊢
  clear x0 x1 x2 x3 HM HT HB HK0 HI0 HE
  generalize hmF seed bits ck = a0 at *
  have HNE := Lib.hid (show bS ≠ w.heap.size ∧ bP ≠ w.heap.size by omega)
  obtain ⟨H, hH⟩ : ∃ H, w.heap.size = H := ⟨_, rfl⟩
  have HHL := Lib.hid (show w.heap.size ≤ H by omega)
  rw [hH] at HI1 HNE ⊢
  clear hH hh
  go_wp2_with fail
  go_loopw [4] (fun va wr => ∃ s c a, va = .int .i64 ((a : Nat) : Int) ∧ Hid (InsI (hmK seed bits) w bP bS seed bits n s0 ⟨true, ck, cv, 0⟩ f H wr s c a)) (fun va _ => far n (intOf va).toNat f)
  case atStart => exact ⟨s0, _, a0, rfl, HI1⟩
  case round =>
    obtain ⟨s, c, a, rfl, HR⟩ := hrel
    clear HI1
    have ha := HR.out.i.lt
    have hcd := HR.out.i.cd
    have q2 := HR.out.t.p2
    obtain ⟨hbm1, hbm2⟩ := HR.out.t.lt
    have hbH := HR.out.h.lt
    have d0 := HR.out.t.c0 ha
    have d1 := HR.out.t.c1 ha
    have d2 := HR.out.t.c2 ha
    have d3 := HR.out.t.c3 ha
    have fS := HR.out.t.sl.loose
    have fH := HR.out.h.loose
    obtain ⟨x0, x1, x2, x3⟩ := slCells HR.out.h
    obtain ⟨yu, yk, yv, yd, hy⟩ : ∃ yu yk yv yd, atS s a = ⟨yu, yk, yv, yd⟩ := ⟨_, _, _, _, rfl⟩
    have HY := Lib.hid hy
    rw [hy] at d0 d1 d2 d3
    simp only at d0 d1 d2 d3
    obtain ⟨zu, zk, zv, zd⟩ := c
    simp only at x0 x1 x2 x3 hcd
    have hzu : zu = true := HR.out.i.cu
    subst hzu
    have hyd : yu = true → yd < n := fun q => by have := (HR.out.i.w.home a ha (by rw [hy]; exact q)).2; rw [hy] at this; exact this
    clear hy
    have hne1 : ¬ bS = H := HNE.out.1
    have hne2 : ¬ H = bS := fun e => HNE.out.1 e.symm
    cases yu with
    | true =>
      have hyd' := hyd rfl
      clear hyd
      by_cases hd : yd < zd
      · have t1 : decide ((yd : Int) < (zd : Int)) = true := by simp; exact hd
        have t2 : (yd : Int) < (zd : Int) := by omega
        have HS3 := Lib.hid (fun m => HR.out.swapped HNE.out HHL.out m (by rw [HY.out]) (by rw [HY.out]; exact hd))
        rw [HY.out] at HS3
        go_upto_region 4 with (go_quiet (fail))
        go_big_region
        have HR3 := Lib.hid (HS3.out (nq + 1))
        clear d0 d1 d2 d3 fS fH x0 x1 x2 x3 q2 hbm1 hbm2 hbH HS3
        generalize (((((((((wr.drewN (nq + 1)).setCell ⟨bS, a * 4, none⟩ (.bool true)).setCell ⟨bS, a * 4 + 1, none⟩ (.string zk)).setCell ⟨bS, a * 4 + 2, none⟩ (.int .i64 zv)).setCell ⟨bS, a * 4 + 3, none⟩ (.int .i64 (zd : Int))).setCell ⟨H, 0, none⟩ (.bool true)).setCell ⟨H, 1, none⟩ (.string yk)).setCell ⟨H, 2, none⟩ (.int .i64 yv)).setCell ⟨H, 3, none⟩ (.int .i64 (yd : Int))) = w3 at HR3 ⊢
        obtain ⟨x0, x1, x2, x3⟩ := slCells HR3.out.h
        simp only at x0 x1 x2 x3
        have fH := HR3.out.h.loose
        have hbH := HR3.out.h.lt
        have hsa : atS (s.set a ⟨true, zk, zv, zd⟩) a = ⟨true, zk, zv, zd⟩ := by rw [atS_set _ (by rw [HR.out.i.w.len]; exact ha), if_pos rfl]
        have HSA := Lib.hid hsa
        clear hsa
        go_wp2_with fail

        have HB := Lib.hid (HR3.out.bump HNE.out HHL.out 0 (by rw [HSA.out]) (by rw [HSA.out]; exact Nat.le_of_lt hd))
        have HC := Lib.hid (next_any bP bS seed bits n _ a _ HB.out.t ha hn)
        clear x0 x1 x2 x3 fH hbH
        refine HC.out.mono ?_
        rintro e w5 ⟨rfl, rfl⟩
        clear HC
        go_wp2
        go_roundw
        case rel => exact ⟨_, _, nx n a, rfl, HB⟩
        case measure =>
          have := far_nx ha hf (show a ≠ f from fun e => by have := HR.out.i.fu; rw [← e, HY.out] at this; cases this)
          simpa [intOf] using this
      · have t1 : decide ((yd : Int) < (zd : Int)) = false := by simp; omega
        have t2 : ¬ (yd : Int) < (zd : Int) := by omega
        go_upto_region 3 with (fail)
        go_quiet (fail)
        go_wp2_with fail

        have HB := Lib.hid (HR.out.bump HNE.out HHL.out nq (by rw [HY.out]) (by rw [HY.out]; exact Nat.le_of_not_lt hd))
        have HC := Lib.hid (next_any bP bS seed bits n _ a _ HB.out.t ha hn)
        clear d0 d1 d2 d3 fS fH x0 x1 x2 x3 q2 hbm1 hbm2 hbH
        refine HC.out.mono ?_
        rintro e w5 ⟨rfl, rfl⟩
        clear HC
        go_wp2
        go_roundw
        case rel => exact ⟨_, _, nx n a, rfl, HB⟩
        case measure =>
          have := far_nx ha hf (show a ≠ f from fun e => by have := HR.out.i.fu; rw [← e, HY.out] at this; cases this)
          simpa [intOf] using this
    | false =>
      go_upto_region 7 with (go_quiet (fail))
      have HP := Lib.hid HR.out.put
      have HU := Lib.hid (show (atS s a).u = false by rw [HY.out])
      go_big_region
      clear d0 d1 d2 d3 fS fH x0 x1 x2 x3 q2 hbm1 hbm2 hbH
      go_wp2
      go_returns
      exact ⟨rfl, Lib.hid ⟨s, _, a, HR.out.i, HU.out, HP.out⟩⟩
end Go.Proofs.YtgcdminjpdbchaaDoor
