/- The contract of Recent's join. -/
import Derived.Test.YtjkejlnelkckgaaRc1
namespace Go.Proofs.Ytjkejlnelkckgaa
open Go.ChangeShapes Go.WideShapes Go.ChangeAt Go.RowKit
set_option linter.unusedVariables false

set_option maxRecDepth 100000 in
theorem join_any (bP bM : Nat) (f : Lk) (n : Nat) (a b : Int) (w : World) (h : IsRc w bP bM f n) (ka : I64 a) (kb : I64 b) (hn : n ≤ 100000) :
    Calls Try.prog 22 #[.pointer (some ⟨bP, 0, none⟩), .int .i64 a, .int .i64 b] w (RcTells bP bM (joinL f a b) (nJ (joinA f a b) b (nJ f a n)) (.tuple #[]) w) := by
  have hbP := h.hd.lt
  have HW := Lib.hid h
  have KA := Lib.hid ka
  have KB := Lib.hid kb
  have pM := h.pM
  obtain ⟨⟨pa, pb⟩, hpl⟩ : ∃ p, (f a).getD (0, 0) = p := ⟨_, rfl⟩
  have HPL := Lib.hid hpl
  obtain ⟨f1, hf1⟩ : ∃ f1, f1 = joinA f a b := ⟨_, rfl⟩
  have HF1 := Lib.hid (show (fun j => if j = a then some (pa, b) else f j) = f1 by rw [hf1]; unfold joinA putL olderI; rw [hpl])
  obtain ⟨n1, hn1⟩ : ∃ n1, n1 = nJ f a n := ⟨_, rfl⟩
  have HN1 := Lib.hid (show n1 ≤ 100001 by rw [hn1]; have := nJ_le f a n; omega)
  have HN1E := Lib.hid hn1
  obtain ⟨⟨qa, qb⟩, hql⟩ : ∃ p, (f1 b).getD (0, 0) = p := ⟨_, rfl⟩
  have HQL := Lib.hid hql
  obtain ⟨f2, hf2⟩ : ∃ f2, f2 = joinL f a b := ⟨_, rfl⟩
  have HF2 := Lib.hid (show (fun j => if j = b then some (a, qb) else f1 j) = f2 by rw [hf2]; unfold joinL putL newerI; rw [← hf1, hql])
  rw [← hf1, ← hn1, ← hf2]
  have HH := Lib.hid hn
  have hne := h.ne
  have HNE := Lib.hid hne
  have hMb := h.mp.lt
  have HA1 := Lib.hid (h.below (box_below (.cells #[.int .i64 pa, .int .i64 b] 46)))
  clear h ka kb hn hpl hf1 hn1 hql hf2 hne
  go_enter Try.func22, Try.ntmps22
  obtain ⟨w1, hrun, hm, hk, hz⟩ := HA1.out.drew.mp.store Try.underlying47 (by have := HH.out; unfold maxLen; omega) KA.out (pa, b)
  rw [show lkE.val (pa, b) = .agg #[.int .i64 pa, .int .i64 b] from rfl] at hrun
  have HM1 := Lib.hid hm
  have HKK1 := Lib.hid hk
  have HZ1 := Lib.hid hz
  clear hm hk hz
  go_wp2_with ((at_lookup; refine wpList_mlook lkE w rfl _ _ 47 46 rfl Try.underlying47 (Try.zeroLk _) bM _ _ rfl HW.out.mp a rfl KA.out (pa, pb) HPL.out (.agg #[.int .i64 pa, .int .i64 pb]) rfl ?_))
  go_region
  clear hrun
  have hm := HM1.out
  have hk := HKK1.out
  have hm : IMap lkE w1 bM f1 n1 := by rw [HN1E.out, ← HF1.out]; exact hm
  have HW1 := Lib.hid (HA1.out.drew.map hm hk)
  have hb := (Has.made w 46 [.int .i64 pa, .int .i64 b]).drew.kept hk (by omega)
  have c0 := hb.cell 0
  have c1 := hb.cell 1
  have l0 := hb.loose 0
  have l1 := hb.loose 1
  simp at c0 c1
  have HB := Lib.hid hb
  have HK1 := Lib.hid (show Kept (two bP bM) w w1 from two_trans (((Kept.refl (two bP bM) w).alloc _).drew) (two_bM hk))
  have hbP1 := HW1.out.hd.lt
  have qM := HW1.out.pM
  have hsz1 : w.heap.size < w1.heap.size := hb.lt
  clear hm hk HM1 HKK1 pM hb
  go_wp2_with ((at_lookup; refine wpList_mlook lkE w1 rfl _ _ 47 46 rfl Try.underlying47 (Try.zeroLk _) bM _ _ rfl HW1.out.mp b rfl KB.out (qa, qb) HQL.out (.agg #[.int .i64 qa, .int .i64 qb]) rfl ?_))
  have B3 := Lib.hid (((HB.out.store 0 (.int .i64 qa)).store 1 (.int .i64 qb)).store 0 (.int .i64 a))
  have K3 := Lib.hid ((((Kept.refl (fun x => x = w.heap.size) w1).setCell (p := ⟨w.heap.size, 0, none⟩) (.inl rfl) (.int .i64 qa)).setCell (p := ⟨w.heap.size, 1, none⟩) (.inl rfl) (.int .i64 qb)).setCell (p := ⟨w.heap.size, 0, none⟩) (.inl rfl) (.int .i64 a))
  clear qM hm l0 l1 c0 c1
  generalize (((w1.setCell ⟨w.heap.size, 0, none⟩ (.int .i64 qa)).setCell ⟨w.heap.size, 1, none⟩ (.int .i64 qb)).setCell ⟨w.heap.size, 0, none⟩ (.int .i64 a)) = w3 at B3 K3 ⊢
  have HW3 := Lib.hid (HW1.out.kept K3.out (by omega) (by omega))
  have HK3 := Lib.hid (show Kept (two bP bM) w w3 from HK1.out.trans K3.out (fun i e => .inr (by omega)))
  have c0 := B3.out.cell 0
  have c1 := B3.out.cell 1
  simp at c0 c1
  have qM := HW3.out.pM
  have hbP3 := HW3.out.hd.lt
  clear K3 B3
  obtain ⟨w4, hrun, hm, hk, hz⟩ := HW3.out.drew.mp.store Try.underlying47 (by have := HN1.out; unfold maxLen; omega) KB.out (a, qb)
  rw [show lkE.val (a, qb) = .agg #[.int .i64 a, .int .i64 qb] from rfl] at hrun
  have R := Lib.hid (show RcTells bP bM f2 (nJ f1 b n1) (.tuple #[]) w (.returned (.tuple #[])) w4 from ⟨rfl, HW3.out.drew.map (by rw [← HF2.out]; exact hm) hk, two_trans HK3.out.drew (two_bM hk)⟩)
  clear hm hk hz
  go_region
  go_wp2
  go_returns
  exact R.out
end Go.Proofs.Ytjkejlnelkckgaa
