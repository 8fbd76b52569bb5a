/- The contract of the wheel's join. -/
import Derived.Test.YtknehglahdkafaaDoorWheel2
namespace Go.Proofs.YtknehglahdkafaaDoor
open Go.ChangeShapes Go.WideShapes Go.ChangeAt Go.RowKit
set_option linter.unusedVariables false

def WS.jA (s : WS) (i : Nat) (a b : Int) : WS := if a = -1 then s.setEn i (b, (s.en.getD i (0, 0)).2) else s.setPl a (((s.pl a).getD (0, 0, 0)).1, ((s.pl a).getD (0, 0, 0)).2.1, b)
def WS.jB (s : WS) (i : Nat) (a b : Int) : WS := if b = -1 then s.setEn i ((s.en.getD i (0, 0)).1, a) else s.setPl b (((s.pl b).getD (0, 0, 0)).1, a, ((s.pl b).getD (0, 0, 0)).2.2)
def WS.join (s : WS) (i : Nat) (a b : Int) : WS := ((s.jA i a b).jB i a b).mark i
theorem en_at {s : WS} (h : s.en.length = 64) {i : Nat} (hi : i < 64) : s.en[i]? = some (s.en.getD i (0, 0)) := by
  rw [List.getD_eq_getElem?_getD, List.getElem?_eq_getElem (by omega)]; rfl
theorem two_bM {bP bM : Nat} {w w' : World} {F : Nat → Prop} (h : Kept (fun y => y = bM) w w') : Kept (two bP bM) w w' := h.mono (fun _ _ e => .inr e)
theorem two_trans {bP bM : Nat} {a b c : World} (h : Kept (two bP bM) a b) (k : Kept (two bP bM) b c) : Kept (two bP bM) a c := h.trans k (fun _ e => .inl e)
/-- What the second half and mark make of it. -/
theorem join_end {bP bM i : Nat} {s1 s2 : WS} {w w2 w3 : World} {e : Ending} (hK : Kept (two bP bM) w w2) (h : WhTells bP bM (s2.mark i) (.tuple #[]) w2 e w3) : WhTells bP bM (s2.mark i) (.tuple #[]) w e w3 := ⟨h.1, h.2.1, two_trans hK h.2.2⟩
set_option maxRecDepth 100000 in
theorem join_00 (bP bM i : Nat) (a b : Int) (s : WS) (w : World) (h : IsWh w bP bM s) (hi : i < 64) (ka : I64 a) (kb : I64 b) (hn : s.n ≤ 100000) (ha : a ≠ -1) (hb : b ≠ -1) :
    Calls Tryd.prog 28 #[.pointer (some ⟨bP, 0, none⟩), .int .i64 (i : Int), .int .i64 a, .int .i64 b] w (WhTells bP bM (s.join i a b) (.tuple #[]) w) := by
  have hp := en_at h.le hi
  have hbP := h.hd.lt
  have HW := Lib.hid h
  have KA := Lib.hid ka
  have KB := Lib.hid kb
  have pM := h.pM
  obtain ⟨⟨pa, pb, pc⟩, hpl⟩ : ∃ p, (s.pl a).getD (0, 0, 0) = p := ⟨_, rfl⟩
  have HPL := Lib.hid hpl
  obtain ⟨s1, hs1⟩ : ∃ s1, s1 = s.setPl a (pa, pb, b) := ⟨_, rfl⟩
  have HJA := Lib.hid (show s.jA i a b = s1 by rw [hs1]; unfold WS.jA; rw [if_neg ha, hpl])
  have HA1 := Lib.hid (h.below ((Below.refl _ w).alloc (Nat.le_refl _) (.cells #[.int .i64 pa, .int .i64 pb, .int .i64 b] 56)))
  have HS1 := Lib.hid hs1
  have t1 : (a == -1) = false := by simp [ha]
  have t2 : (b == -1) = false := by simp [hb]
  have HB := Lib.hid hb
  have HH := Lib.hid hn
  have HI := Lib.hid hi
  clear ha hpl
  clear hb
  clear h hp ka kb hs1
  go_enter Tryd.func28, Tryd.ntmps28
  obtain ⟨w1, hrun, hm, hk, hz⟩ := HA1.out.drew.mp.store Tryd.underlying49 (by have := HH.out; unfold maxLen; omega) KA.out (pa, pb, b)
  rw [show plE.val (pa, pb, b) = .agg #[.int .i64 pa, .int .i64 pb, .int .i64 b] from rfl] at hrun
  have HM1 := Lib.hid hm
  have HKK1 := Lib.hid hk
  clear hm hk hz
  go_wp2_with ((at_lookup; refine wpList_mlook plE w rfl _ _ 49 56 rfl Tryd.underlying49 (Tryd.zeroPl _) bM _ _ rfl HW.out.mp a rfl KA.out (pa, pb, pc) HPL.out (.agg #[.int .i64 pa, .int .i64 pb, .int .i64 pc]) rfl ?_))
  go_region
  clear hrun
  have hm := HM1.out
  have hk := HKK1.out

  have HW1 := Lib.hid (show IsWh w1 bP bM s1 by rw [HS1.out]; exact HA1.out.drew.put hm hk)
  have HK1 := Lib.hid (show Kept (two bP bM) w w1 from two_trans (((Kept.refl (two bP bM) w).alloc _).drew) (two_bM (F := fun _ => False) hk))
  have hbP1 := HW1.out.hd.lt
  have qM := HW1.out.pM
  clear hm hk HM1 HKK1 pM
  obtain ⟨⟨qa, qb, qc⟩, hql⟩ : ∃ p, (s1.pl b).getD (0, 0, 0) = p := ⟨_, rfl⟩
  have HQL := Lib.hid hql
  obtain ⟨s2, hs2⟩ : ∃ s2, s2 = s1.setPl b (qa, a, qc) := ⟨_, rfl⟩
  have HJB := Lib.hid (show s1.jB i a b = s2 by rw [hs2]; unfold WS.jB; rw [if_neg HB.out, hql])
  have HA2 := Lib.hid (HW1.out.below ((Below.refl _ _).alloc (Nat.le_refl _) (.cells #[.int .i64 qa, .int .i64 a, .int .i64 qc] 56)))
  have HS2 := Lib.hid hs2
  have HN1 := Lib.hid (show s1.n ≤ 100001 by have := HH.out; rw [HS1.out]; show (if (s.pl a).isSome then s.n else s.n + 1) ≤ 100001; split <;> omega)
  clear hql hs2
  obtain ⟨w2, hrun, hm, hk, hz⟩ := HA2.out.drew.mp.store Tryd.underlying49 (by have := HN1.out; unfold maxLen; omega) KB.out (qa, a, qc)
  rw [show plE.val (qa, a, qc) = .agg #[.int .i64 qa, .int .i64 a, .int .i64 qc] from rfl] at hrun
  have HM1 := Lib.hid hm
  have HKK1 := Lib.hid hk
  clear hm hk hz
  go_wp2_with ((at_lookup; refine wpList_mlook plE w1 rfl _ _ 49 56 rfl Tryd.underlying49 (Tryd.zeroPl _) bM _ _ rfl HW1.out.mp b rfl KB.out (qa, qb, qc) HQL.out (.agg #[.int .i64 qa, .int .i64 qb, .int .i64 qc]) rfl ?_))
  go_region
  clear hrun
  have hm := HM1.out
  have hk := HKK1.out

  have HW2 := Lib.hid (show IsWh w2 bP bM s2 by rw [HS2.out]; exact HA2.out.drew.put hm hk)
  have HK2 := Lib.hid (show Kept (two bP bM) w w2 from two_trans (HK1.out.alloc _).drew (two_bM (F := fun _ => False) hk))
  clear hm hk HM1 HKK1
  go_wp2_with fail
  refine (mark_any bP bM i s2 _ HW2.out HI.out).mono ?_
  rintro e w3 hm
  have R := Lib.hid (show WhTells bP bM (s.join i a b) (.tuple #[]) w e w3 by unfold WS.join; rw [HJA.out, HJB.out]; exact join_end (s1 := s1) HK2.out hm)
  obtain ⟨rfl, hm1, hm2⟩ := hm
  clear hm1 hm2
  go_wp2
  go_returns
  exact R.out
set_option maxRecDepth 100000 in
theorem join_01 (bP bM i : Nat) (a b : Int) (s : WS) (w : World) (h : IsWh w bP bM s) (hi : i < 64) (ka : I64 a) (kb : I64 b) (hn : s.n ≤ 100000) (ha : a ≠ -1) (hb : b = -1) :
    Calls Tryd.prog 28 #[.pointer (some ⟨bP, 0, none⟩), .int .i64 (i : Int), .int .i64 a, .int .i64 b] w (WhTells bP bM (s.join i a b) (.tuple #[]) w) := by
  have hp := en_at h.le hi
  have hbP := h.hd.lt
  have HW := Lib.hid h
  have KA := Lib.hid ka
  have KB := Lib.hid kb
  have c1 := h.e1 hp
  have l1 := h.hd.loose (1 + i * 2 + 1)
  have pM := h.pM
  obtain ⟨⟨pa, pb, pc⟩, hpl⟩ : ∃ p, (s.pl a).getD (0, 0, 0) = p := ⟨_, rfl⟩
  have HPL := Lib.hid hpl
  obtain ⟨s1, hs1⟩ : ∃ s1, s1 = s.setPl a (pa, pb, b) := ⟨_, rfl⟩
  have HJA := Lib.hid (show s.jA i a b = s1 by rw [hs1]; unfold WS.jA; rw [if_neg ha, hpl])
  have HA1 := Lib.hid (h.below ((Below.refl _ w).alloc (Nat.le_refl _) (.cells #[.int .i64 pa, .int .i64 pb, .int .i64 b] 56)))
  have HS1 := Lib.hid hs1
  have t1 : (a == -1) = false := by simp [ha]
  have HPE := Lib.hid hp
  have HB := Lib.hid hb
  have HH := Lib.hid hn
  have HI := Lib.hid hi
  clear ha hpl
  subst hb
  clear h hp ka kb hs1
  go_enter Tryd.func28, Tryd.ntmps28
  obtain ⟨w1, hrun, hm, hk, hz⟩ := HA1.out.drew.mp.store Tryd.underlying49 (by have := HH.out; unfold maxLen; omega) KA.out (pa, pb, (-1))
  rw [show plE.val (pa, pb, (-1)) = .agg #[.int .i64 pa, .int .i64 pb, .int .i64 (-1)] from rfl] at hrun
  have HM1 := Lib.hid hm
  have HKK1 := Lib.hid hk
  clear hm hk hz
  go_wp2_with ((at_lookup; refine wpList_mlook plE w rfl _ _ 49 56 rfl Tryd.underlying49 (Tryd.zeroPl _) bM _ _ rfl HW.out.mp a rfl KA.out (pa, pb, pc) HPL.out (.agg #[.int .i64 pa, .int .i64 pb, .int .i64 pc]) rfl ?_))
  go_region
  clear hrun
  have hm := HM1.out
  have hk := HKK1.out

  have HW1 := Lib.hid (show IsWh w1 bP bM s1 by rw [HS1.out]; exact HA1.out.drew.put hm hk)
  have HK1 := Lib.hid (show Kept (two bP bM) w w1 from two_trans (((Kept.refl (two bP bM) w).alloc _).drew) (two_bM (F := fun _ => False) hk))
  have hbP1 := HW1.out.hd.lt
  have qM := HW1.out.pM
  have hp1 := en_at HW1.out.le HI.out
  have c1' := HW1.out.e1 hp1
  have l1' := HW1.out.hd.loose (1 + i * 2 + 1)
  clear hp1
  clear hm hk HM1 HKK1 pM c1 l1
  obtain ⟨s2, hs2⟩ : ∃ s2, s2 = s1.setEn i ((s1.en.getD i (0, 0)).1, a) := ⟨_, rfl⟩
  have HJB := Lib.hid (show s1.jB i a (-1) = s2 by rw [hs2]; unfold WS.jB; rw [if_pos rfl])
  have HW2 := Lib.hid (show IsWh (w1.setCell ⟨bP, 1 + i * 2 + 1, none⟩ (.int .i64 a)) bP bM s2 by rw [hs2]; exact HW1.out.last (en_at HW1.out.le HI.out) _)
  have HK2 := Lib.hid (show Kept (two bP bM) w (w1.setCell ⟨bP, 1 + i * 2 + 1, none⟩ (.int .i64 a)) from HK1.out.setCell (p := ⟨bP, 1 + i * 2 + 1, none⟩) (.inl (.inl rfl)) _)
  clear hs2
  go_wp2_with fail
  refine (mark_any bP bM i s2 _ HW2.out HI.out).mono ?_
  rintro e w3 hm
  have R := Lib.hid (show WhTells bP bM (s.join i a (-1)) (.tuple #[]) w e w3 by unfold WS.join; rw [HJA.out, HJB.out]; exact join_end (s1 := s1) HK2.out hm)
  obtain ⟨rfl, hm1, hm2⟩ := hm
  clear hm1 hm2
  go_wp2
  go_returns
  exact R.out
set_option maxRecDepth 100000 in
theorem join_10 (bP bM i : Nat) (a b : Int) (s : WS) (w : World) (h : IsWh w bP bM s) (hi : i < 64) (ka : I64 a) (kb : I64 b) (hn : s.n ≤ 100000) (ha : a = -1) (hb : b ≠ -1) :
    Calls Tryd.prog 28 #[.pointer (some ⟨bP, 0, none⟩), .int .i64 (i : Int), .int .i64 a, .int .i64 b] w (WhTells bP bM (s.join i a b) (.tuple #[]) w) := by
  have hp := en_at h.le hi
  have hbP := h.hd.lt
  have HW := Lib.hid h
  have KA := Lib.hid ka
  have KB := Lib.hid kb
  have c0 := h.e0 hp
  have l0 := h.hd.loose (1 + i * 2)
  have pM := h.pM
  obtain ⟨s1, hs1⟩ : ∃ s1, s1 = s.setEn i (b, (s.en.getD i (0, 0)).2) := ⟨_, rfl⟩
  have HJA := Lib.hid (show s.jA i a b = s1 by rw [hs1]; unfold WS.jA; rw [if_pos ha])
  have HW1 := Lib.hid (show IsWh (w.setCell ⟨bP, 1 + i * 2, none⟩ (.int .i64 b)) bP bM s1 by rw [hs1]; exact h.first hp b)
  have HK1 := Lib.hid (show Kept (two bP bM) w (w.setCell ⟨bP, 1 + i * 2, none⟩ (.int .i64 b)) from (Kept.refl _ w).setCell (p := ⟨bP, 1 + i * 2, none⟩) (.inl (.inl rfl)) _)
  have t2 : (b == -1) = false := by simp [hb]
  have HN0 := Lib.hid (show s1.n = s.n by rw [hs1]; rfl)
  have HB := Lib.hid hb
  have HH := Lib.hid hn
  have HI := Lib.hid hi
  subst ha
  clear hb
  clear h hp ka kb hs1
  go_enter Tryd.func28, Tryd.ntmps28
  obtain ⟨⟨qa, qb, qc⟩, hql⟩ : ∃ p, (s1.pl b).getD (0, 0, 0) = p := ⟨_, rfl⟩
  have HQL := Lib.hid hql
  obtain ⟨s2, hs2⟩ : ∃ s2, s2 = s1.setPl b (qa, (-1), qc) := ⟨_, rfl⟩
  have HJB := Lib.hid (show s1.jB i (-1) b = s2 by rw [hs2]; unfold WS.jB; rw [if_neg HB.out, hql])
  have HA2 := Lib.hid (HW1.out.below ((Below.refl _ _).alloc (Nat.le_refl _) (.cells #[.int .i64 qa, .int .i64 (-1), .int .i64 qc] 56)))
  have HS2 := Lib.hid hs2
  have HN1 := Lib.hid (show s1.n ≤ 100001 by have := HH.out; have := HN0.out; omega)
  clear hql hs2
  obtain ⟨w2, hrun, hm, hk, hz⟩ := HA2.out.drew.mp.store Tryd.underlying49 (by have := HN1.out; unfold maxLen; omega) KB.out (qa, (-1), qc)
  rw [show plE.val (qa, (-1), qc) = .agg #[.int .i64 qa, .int .i64 (-1), .int .i64 qc] from rfl] at hrun
  have HM1 := Lib.hid hm
  have HKK1 := Lib.hid hk
  clear hm hk hz
  go_wp2_with ((at_lookup; refine wpList_mlook plE (w.setCell ⟨bP, 1 + i * 2, none⟩ (.int .i64 b)) rfl _ _ 49 56 rfl Tryd.underlying49 (Tryd.zeroPl _) bM _ _ rfl HW1.out.mp b rfl KB.out (qa, qb, qc) HQL.out (.agg #[.int .i64 qa, .int .i64 qb, .int .i64 qc]) rfl ?_))
  go_region
  clear hrun
  have hm := HM1.out
  have hk := HKK1.out

  have HW2 := Lib.hid (show IsWh w2 bP bM s2 by rw [HS2.out]; exact HA2.out.drew.put hm hk)
  have HK2 := Lib.hid (show Kept (two bP bM) w w2 from two_trans (HK1.out.alloc _).drew (two_bM (F := fun _ => False) hk))
  clear hm hk HM1 HKK1
  go_wp2_with fail
  refine (mark_any bP bM i s2 _ HW2.out HI.out).mono ?_
  rintro e w3 hm
  have R := Lib.hid (show WhTells bP bM (s.join i (-1) b) (.tuple #[]) w e w3 by unfold WS.join; rw [HJA.out, HJB.out]; exact join_end (s1 := s1) HK2.out hm)
  obtain ⟨rfl, hm1, hm2⟩ := hm
  clear hm1 hm2
  go_wp2
  go_returns
  exact R.out
set_option maxRecDepth 100000 in
theorem join_11 (bP bM i : Nat) (a b : Int) (s : WS) (w : World) (h : IsWh w bP bM s) (hi : i < 64) (ka : I64 a) (kb : I64 b) (hn : s.n ≤ 100000) (ha : a = -1) (hb : b = -1) :
    Calls Tryd.prog 28 #[.pointer (some ⟨bP, 0, none⟩), .int .i64 (i : Int), .int .i64 a, .int .i64 b] w (WhTells bP bM (s.join i a b) (.tuple #[]) w) := by
  have hp := en_at h.le hi
  have hbP := h.hd.lt
  have HW := Lib.hid h
  have KA := Lib.hid ka
  have KB := Lib.hid kb
  have c0 := h.e0 hp
  have l0 := h.hd.loose (1 + i * 2)
  have c1 := h.e1 hp
  have l1 := h.hd.loose (1 + i * 2 + 1)
  have pM := h.pM
  obtain ⟨s1, hs1⟩ : ∃ s1, s1 = s.setEn i (b, (s.en.getD i (0, 0)).2) := ⟨_, rfl⟩
  have HJA := Lib.hid (show s.jA i a b = s1 by rw [hs1]; unfold WS.jA; rw [if_pos ha])
  have HW1 := Lib.hid (show IsWh (w.setCell ⟨bP, 1 + i * 2, none⟩ (.int .i64 b)) bP bM s1 by rw [hs1]; exact h.first hp b)
  have HK1 := Lib.hid (show Kept (two bP bM) w (w.setCell ⟨bP, 1 + i * 2, none⟩ (.int .i64 b)) from (Kept.refl _ w).setCell (p := ⟨bP, 1 + i * 2, none⟩) (.inl (.inl rfl)) _)
  have HPE := Lib.hid hp
  have HB := Lib.hid hb
  have HH := Lib.hid hn
  have HI := Lib.hid hi
  subst ha
  subst hb
  clear h hp ka kb hs1
  go_enter Tryd.func28, Tryd.ntmps28
  obtain ⟨s2, hs2⟩ : ∃ s2, s2 = s1.setEn i ((s1.en.getD i (0, 0)).1, -1) := ⟨_, rfl⟩
  have HJB := Lib.hid (show s1.jB i (-1) (-1) = s2 by rw [hs2]; unfold WS.jB; rw [if_pos rfl])
  have HW2 := Lib.hid (show IsWh ((w.setCell ⟨bP, 1 + i * 2, none⟩ (.int .i64 (-1))).setCell ⟨bP, 1 + i * 2 + 1, none⟩ (.int .i64 (-1))) bP bM s2 by rw [hs2]; exact HW1.out.last (en_at HW1.out.le HI.out) _)
  have HK2 := Lib.hid (show Kept (two bP bM) w ((w.setCell ⟨bP, 1 + i * 2, none⟩ (.int .i64 (-1))).setCell ⟨bP, 1 + i * 2 + 1, none⟩ (.int .i64 (-1))) from HK1.out.setCell (p := ⟨bP, 1 + i * 2 + 1, none⟩) (.inl (.inl rfl)) _)
  clear hs2
  go_wp2_with fail
  refine (mark_any bP bM i s2 _ HW2.out HI.out).mono ?_
  rintro e w3 hm
  have R := Lib.hid (show WhTells bP bM (s.join i (-1) (-1)) (.tuple #[]) w e w3 by unfold WS.join; rw [HJA.out, HJB.out]; exact join_end (s1 := s1) HK2.out hm)
  obtain ⟨rfl, hm1, hm2⟩ := hm
  clear hm1 hm2
  go_wp2
  go_returns
  exact R.out
theorem join_any (bP bM i : Nat) (a b : Int) (s : WS) (w : World) (h : IsWh w bP bM s) (hi : i < 64) (ka : I64 a) (kb : I64 b) (hn : s.n ≤ 100000) :
    Calls Tryd.prog 28 #[.pointer (some ⟨bP, 0, none⟩), .int .i64 (i : Int), .int .i64 a, .int .i64 b] w (WhTells bP bM (s.join i a b) (.tuple #[]) w) := by
  by_cases ha : a = -1
  · by_cases hb : b = -1
    · exact join_11 bP bM i a b s w h hi ka kb hn ha hb
    · exact join_10 bP bM i a b s w h hi ka kb hn ha hb
  · by_cases hb : b = -1
    · exact join_01 bP bM i a b s w h hi ka kb hn ha hb
    · exact join_00 bP bM i a b s w h hi ka kb hn ha hb
end Go.Proofs.YtknehglahdkafaaDoor
