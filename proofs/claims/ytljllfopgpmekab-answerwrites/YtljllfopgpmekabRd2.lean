/- answer.read: the answer that is read out of any bytes. -/
import Derived.Test.YtljllfopgpmekabRd1
import Derived.Test.YtljllfopgpmekabSeq1
import Derived.Deep.RegionWith
import Derived.WalkMore
-- prune
namespace Go.Proofs.Ytljllfopgpmekab
open Go.ChangeShapes Go.WideShapes Go.ChangeAt Go.RowKit
set_option linter.unusedVariables false

/-- An answer whose lists lie from B on. -/
def IsAnF (B : Nat) (w : World) (v : Value) (a : An) : Prop := ∃ A ca N cn, v = .agg (anC a A ca N cn).toArray ∧ AnAt w a A ca N cn ∧ (∀ b off, A = some ⟨b, off, none⟩ → B ≤ b) ∧ (∀ b off, N = some ⟨b, off, none⟩ → B ≤ b)
theorem IsAnF.an {B : Nat} {w : World} {v : Value} {a : An} (h : IsAnF B w v a) : IsAn w v a := by
  obtain ⟨A, ca, N, cn, e, h1, _⟩ := h
  exact ⟨A, ca, N, cn, e, h1⟩
def zAn : An := ⟨0, 0, [], 0, 0, 0, 0, 0, 0, 0, []⟩
/-- While an answer is read: what tells it, the reader, the answer, and its two lists. -/
structure AW (l : List UInt8) (a : An) (A : Option Addr) (ca : Nat) (N : Option Addr) (cn : Nat) (w w1 : World) : Prop where
  rr : RR 113 (w.heap.size + 1) l w1
  be : Below w.heap.size w w1
  res : Has w1 w.heap.size 43 (anC zAn none 0 none 0)
  loc : Has w1 (w.heap.size + 2) 43 (anC a A ca N cn)
  ot : OwnSeq tdC 5 w.heap.size 70 w1 (.slice A a.told.length ca) a.told
  on : OwnSeq nmC 2 w.heap.size 26 w1 (.slice N a.names.length cn) a.names
theorem ne_types : 113 ≠ 70 ∧ 113 ≠ 26 ∧ 43 ≠ 70 ∧ 43 ≠ 26 ∧ 70 ≠ 26 := by decide
theorem owns_two {w : World} {B : Nat} {e e' : TypeId} {m m' n n' : Nat} {v v' : Value} {xs xs' : List Value} (h : w.ownsRow B e m v n xs) (h' : w.ownsRow B e' m' v' n' xs') (ht : e ≠ e') {b : Nat} (hb : v.ownBlock = some b) : ¬ v'.ownBlock = some b := by
  intro hb'
  obtain ⟨_, _, cs, h1⟩ := owns_ltS h hb
  obtain ⟨_, _, cs', h2⟩ := owns_ltS h' hb'
  rw [h1] at h2
  injection h2 with h2
  injection h2 with _ h3 _
  exact ht h3
section
variable {l l' : List UInt8} {a : An} {A N : Option Addr} {ca cn : Nat} {w w1 w2 : World}
theorem AW.size (h : AW l a A ca N cn w w1) : w.heap.size ≤ w1.heap.size := h.be.size
theorem AW.next (h : AW l a A ca N cn w w1) (hr : RR 113 (w.heap.size + 1) l' w2) (hk : Kept (fun b => b = w.heap.size + 1) w1 w2) : AW l' a A ca N cn w w2 := by
  obtain ⟨t1, t2, _, _, _⟩ := ne_types
  refine ⟨hr, h.be.trans (hk.below h.be.size (fun k hk => by show ¬ k = _; omega)), h.res.kept hk (by show ¬ _ = _; omega), h.loc.kept hk (by show ¬ _ = _; omega), ownsRow_keptS h.ot hk (fun b hb e => ?_), ownsRow_keptS h.on hk (fun b hb e => ?_)⟩
  · exact owns_neS h.ot hb h.rr.h t1 e.symm
  · exact owns_neS h.on hb h.rr.h t2 e.symm
theorem AW.drew (h : AW l a A ca N cn w w1) : AW l a A ca N cn w w1.drew := ⟨⟨h.rr.h.drew, h.rr.n⟩, h.be.drew, h.res.drew, h.loc.drew, ownsRow_keptS h.ot ((Kept.refl (fun _ => False) w1).drew) (fun _ _ => id), ownsRow_keptS h.on ((Kept.refl (fun _ => False) w1).drew) (fun _ _ => id)⟩
theorem AW.alloc (h : AW l a A ca N cn w w1) (o : Obj) : AW l a A ca N cn w (w1.alloc o) := ⟨⟨h.rr.h.alloc _, h.rr.n⟩, h.be.alloc h.be.size _, h.res.alloc _, h.loc.alloc _, ownsRow_keptS h.ot ((Kept.refl (fun _ => False) w1).alloc _) (fun _ _ => id), ownsRow_keptS h.on ((Kept.refl (fun _ => False) w1).alloc _) (fun _ _ => id)⟩
/-- A field that is no list. -/
theorem AW.put (h : AW l a A ca N cn w w1) (i : Nat) (u : Value) (a' : An) (e : (anC a A ca N cn).set i u = anC a' A ca N cn) (e1 : a'.told = a.told) (e2 : a'.names = a.names) : AW l a' A ca N cn w (w1.setCell ⟨w.heap.size + 2, i, none⟩ u) := by
  obtain ⟨_, _, t3, t4, _⟩ := ne_types
  have hk : Kept (fun b => b = w.heap.size + 2) w1 (w1.setCell ⟨w.heap.size + 2, i, none⟩ u) := kset0 _ _ _ _
  refine ⟨⟨h.rr.h.apart (by show w.heap.size + 1 ≠ w.heap.size + 2; omega) u, h.rr.n⟩, h.be.setCell (by show w.heap.size ≤ w.heap.size + 2; omega) u, h.res.apart (by show w.heap.size ≠ w.heap.size + 2; omega) u, ?_, ?_, ?_⟩
  · rw [← e]; exact h.loc.store i u
  · rw [e1]; exact ownsRow_keptS h.ot hk (fun b hb e => owns_neS h.ot hb h.loc t3 e.symm)
  · rw [e2]; exact ownsRow_keptS h.on hk (fun b hb e => owns_neS h.on hb h.loc t4 e.symm)
/-- One thing more that is told. -/
theorem AW.told (h : AW l a A ca N cn w w1) {g cap : Nat} {t : Td} (ho : OwnSeq tdC 5 w.heap.size 70 w2 (.slice (some ⟨g, 0, none⟩) (a.told.length + 1) cap) (a.told ++ [t])) (hk : Kept (fun b => (Value.slice A a.told.length ca).ownBlock = some b) w1 w2) :
    AW l { a with told := a.told ++ [t] } (some ⟨g, 0, none⟩) cap N cn w (w2.setCell ⟨w.heap.size + 2, 2, none⟩ (.slice (some ⟨g, 0, none⟩) (a.told.length + 1) cap)) := by
  obtain ⟨t1, t2, t3, t4, t5⟩ := ne_types
  have h1 : Has w2 (w.heap.size + 1) 113 _ := h.rr.h.kept hk (fun e => owns_neS h.ot e h.rr.h t1 rfl)
  have h2 : Has w2 w.heap.size 43 _ := h.res.kept hk (fun e => owns_neS h.ot e h.res t3 rfl)
  have h3 : Has w2 (w.heap.size + 2) 43 _ := h.loc.kept hk (fun e => owns_neS h.ot e h.loc t3 rfl)
  have h4 : OwnSeq nmC 2 w.heap.size 26 w2 _ a.names := ownsRow_keptS h.on hk (fun b hb e => owns_two h.ot h.on t5 e hb)
  have hb : Below w.heap.size w w2 := h.be.trans (hk.below h.be.size (fun k hk e => by have := (owns_ltS h.ot e).1; omega))
  have hk2 : Kept (fun b => b = w.heap.size + 2) w2 (w2.setCell ⟨w.heap.size + 2, 2, none⟩ (.slice (some ⟨g, 0, none⟩) (a.told.length + 1) cap)) := kset0 _ _ _ _
  refine ⟨⟨h1.apart (by show w.heap.size + 1 ≠ w.heap.size + 2; omega) _, h.rr.n⟩, hb.setCell (by show w.heap.size ≤ w.heap.size + 2; omega) _, h2.apart (by show w.heap.size ≠ w.heap.size + 2; omega) _, ?_, ?_, ?_⟩
  · have := h3.store 2 (.slice (some ⟨g, 0, none⟩) (a.told.length + 1) cap)
    simpa [anC] using this
  · refine ownsRow_keptS (v := .slice (some ⟨g, 0, none⟩) (a.told ++ [t]).length cap) ?_ hk2 (fun b hb e => ?_)
    · have := ho
      unfold OwnSeq at this
      simpa using this
    · exact owns_neS (v := .slice (some ⟨g, 0, none⟩) (a.told.length + 1) cap) ho hb h3 t3 e.symm
  · exact ownsRow_keptS h4 hk2 (fun b hb e => owns_neS h4 hb h3 t4 e.symm)
theorem AW.name (h : AW l a A ca N cn w w1) {g cap : Nat} {t : Nm} (ho : OwnSeq nmC 2 w.heap.size 26 w2 (.slice (some ⟨g, 0, none⟩) (a.names.length + 1) cap) (a.names ++ [t])) (hk : Kept (fun b => (Value.slice N a.names.length cn).ownBlock = some b) w1 w2) :
    AW l { a with names := a.names ++ [t] } A ca (some ⟨g, 0, none⟩) cap w (w2.setCell ⟨w.heap.size + 2, 10, none⟩ (.slice (some ⟨g, 0, none⟩) (a.names.length + 1) cap)) := by
  obtain ⟨t1, t2, t3, t4, t5⟩ := ne_types
  have h1 : Has w2 (w.heap.size + 1) 113 _ := h.rr.h.kept hk (fun e => owns_neS h.on e h.rr.h t2 rfl)
  have h2 : Has w2 w.heap.size 43 _ := h.res.kept hk (fun e => owns_neS h.on e h.res t4 rfl)
  have h3 : Has w2 (w.heap.size + 2) 43 _ := h.loc.kept hk (fun e => owns_neS h.on e h.loc t4 rfl)
  have h4 : OwnSeq tdC 5 w.heap.size 70 w2 _ a.told := ownsRow_keptS h.ot hk (fun b hb e => owns_two h.on h.ot (Ne.symm t5) e hb)
  have hb : Below w.heap.size w w2 := h.be.trans (hk.below h.be.size (fun k hk e => by have := (owns_ltS h.on e).1; omega))
  have hk2 : Kept (fun b => b = w.heap.size + 2) w2 (w2.setCell ⟨w.heap.size + 2, 10, none⟩ (.slice (some ⟨g, 0, none⟩) (a.names.length + 1) cap)) := kset0 _ _ _ _
  refine ⟨⟨h1.apart (by show w.heap.size + 1 ≠ w.heap.size + 2; omega) _, h.rr.n⟩, hb.setCell (by show w.heap.size ≤ w.heap.size + 2; omega) _, h2.apart (by show w.heap.size ≠ w.heap.size + 2; omega) _, ?_, ?_, ?_⟩
  · have := h3.store 10 (.slice (some ⟨g, 0, none⟩) (a.names.length + 1) cap)
    simpa [anC] using this
  · exact ownsRow_keptS h4 hk2 (fun b hb e => owns_neS h4 hb h3 t3 e.symm)
  · refine ownsRow_keptS (v := .slice (some ⟨g, 0, none⟩) (a.names ++ [t]).length cap) ?_ hk2 (fun b hb e => ?_)
    · have := ho
      unfold OwnSeq at this
      simpa using this
    · exact owns_neS (v := .slice (some ⟨g, 0, none⟩) (a.names.length + 1) cap) ho hb h3 t4 e.symm
end
theorem AW.made (l : List UInt8) (hl : l.length ≤ maxLen) (w : World) : AW l zAn none 0 none 0 w (((w.alloc (.cells (anC zAn none 0 none 0).toArray 43)).alloc (.cells #[.string (bA l)] 113)).alloc (.cells (anC zAn none 0 none 0).toArray 43)) := by
  refine ⟨⟨?_, hl⟩, (((Below.refl _ _).alloc (Nat.le_refl _) _).alloc (by simp) _).alloc (by simp; omega) _, ((Has.made w 43 (anC zAn none 0 none 0)).alloc _).alloc _, ?_, OwnSeq.nil _ _ _, OwnSeq.nil _ _ _⟩
  · have := (Has.made (w.alloc (.cells (anC zAn none 0 none 0).toArray 43)) 113 [.string (bA l)]).alloc (.cells (anC zAn none 0 none 0).toArray 43)
    rwa [show (w.alloc (.cells (anC zAn none 0 none 0).toArray 43)).heap.size = w.heap.size + 1 by simp] at this
  · have := Has.made ((w.alloc (.cells (anC zAn none 0 none 0).toArray 43)).alloc (.cells #[.string (bA l)] 113)) 43 (anC zAn none 0 none 0)
    rwa [show ((w.alloc (.cells (anC zAn none 0 none 0).toArray 43)).alloc (.cells #[.string (bA l)] 113)).heap.size = w.heap.size + 2 by simp] at this
theorem AW.keptT {l : List UInt8} {a : An} {A N : Option Addr} {ca cn : Nat} {w w1 w2 : World} (h : AW l a A ca N cn w w1) (hk : Kept (fun b => (Value.slice A a.told.length ca).ownBlock = some b) w1 w2) : Has w2 (w.heap.size + 2) 43 (anC a A ca N cn) :=
  h.loc.kept hk (fun e => owns_neS h.ot e h.loc ne_types.2.2.1 rfl)
theorem AW.keptN {l : List UInt8} {a : An} {A N : Option Addr} {ca cn : Nat} {w w1 w2 : World} (h : AW l a A ca N cn w w1) (hk : Kept (fun b => (Value.slice N a.names.length cn).ownBlock = some b) w1 w2) : Has w2 (w.heap.size + 2) 43 (anC a A ca N cn) :=
  h.loc.kept hk (fun e => owns_neS h.on e h.loc ne_types.2.2.2.1 rfl)
theorem aTold_td (r : Nat) (l l' : List UInt8) (t : Td) (ht : rdTd l = (t, l')) (w : World) (h : RR 113 r l w) :
    Calls Try.prog 68 #[.pointer (some ⟨r, 0, none⟩)] w (RdX 113 r (.agg #[.int .i64 t.code, .bool t.al, .int .i64 t.rem, .int .i64 t.ret, .int .i64 t.res]) l' w) := by
  unfold rdTd at ht
  injection ht with h1 h2
  subst h1 h2
  exact aTold_any r l w h
theorem aName_nm (r : Nat) (l l' : List UInt8) (t : Nm) (ht : rdNm l = (t, l')) (w : World) (h : RR 113 r l w) :
    Calls Try.prog 69 #[.pointer (some ⟨r, 0, none⟩)] w (RdX 113 r (.agg #[.int .i64 t.book, .string t.key]) l' w) := by
  unfold rdNm at ht
  injection ht with h1 h2
  subst h1 h2
  exact aName_any r l w h
theorem AW.done {l : List UInt8} {a : An} {A N : Option Addr} {ca cn : Nat} {w w1 w2 : World} (h : AW l a A ca N cn w w1) (hk : Kept (fun b => b = w.heap.size) w1 w2) (ks : ∀ n ∈ a.names, n.key.size ≤ maxLen) : Below w.heap.size w w2 ∧ IsAnF w.heap.size w2 (.agg (anC a A ca N cn).toArray) a := by
  have ht : OwnSeq tdC 5 w.heap.size 70 w2 (.slice A a.told.length ca) a.told := ownsRow_keptS h.ot hk (fun b hb e => owns_neS h.ot hb h.res ne_types.2.2.1 e.symm)
  have hn : OwnSeq nmC 2 w.heap.size 26 w2 (.slice N a.names.length cn) a.names := ownsRow_keptS h.on hk (fun b hb e => owns_neS h.on hb h.res ne_types.2.2.2.1 e.symm)
  refine ⟨h.be.trans (hk.below h.be.size (fun k hk => by show ¬ k = _; omega)), A, ca, N, cn, rfl, ?_⟩
  obtain ⟨A', ca', e1, l1, m1, s1⟩ := OwnSeq.at_ tdC_len ht
  obtain ⟨N', cn', e2, l2, m2, s2⟩ := OwnSeq.at_ nmC_len hn
  injection e1 with e1 _ e3
  injection e2 with e2 _ e4
  subst e1 e2 e3 e4
  refine ⟨⟨l1, m1, l2, m2, s1, s2, ks⟩, fun b off e => ?_, fun b off e => ?_⟩
  · subst e; exact (owns_ltS ht rfl).1
  · subst e; exact (owns_ltS hn rfl).1
theorem AW.eq {l l' : List UInt8} {a a' : An} {A N : Option Addr} {ca cn : Nat} {w w1 : World} (h : AW l a A ca N cn w w1) (e : l = l') (e2 : a = a') : AW l' a' A ca N cn w w1 := by subst e; subst e2; exact h
theorem infoTd : (Try.prog.info? 70).map (fun i => (i.zero, i.size, i.bytes)) = some (some (.agg #[.int .i64 0, .bool false, .int .i64 0, .int .i64 0, .int .i64 0]), 5, 40) := by kernel_rfl
theorem infoNm : (Try.prog.info? 26).map (fun i => (i.zero, i.size, i.bytes)) = some (some (.agg #[.int .i64 0, .string ⟨#[]⟩]), 2, 24) := by kernel_rfl
set_option maxRecDepth 100000 in
set_option maxHeartbeats 2000000 in
theorem read_any (l : List UInt8) (hl : l.length ≤ maxLen) (w : World) :
    Calls Try.prog 46 #[.string (bA l)] w fun e w' => ∃ v, e = .returned v ∧ IsAnF w.heap.size w' v (rdAn l) ∧ Below w.heap.size w w' := by
  have Y0 := Lib.hid (AW.made l hl w)
  clear hl
  unfold anC at Y0
  go_enter Try.func46, Try.ntmps46
  go_wp2_with fail
  refine (aNumber_any _ (l) 1 _ (by decide) Y0.out.rr).mono ?_
  rintro e w1 ⟨rfl, h1, k1⟩
  have X1 := Lib.hid ((Y0.out.next h1 k1).eq (l' := an1 l) (by simp only [an1]) (a' := (⟨0, 0, [], 0, 0, 0, 0, 0, 0, 0, []⟩ : An)) rfl)
  clear h1 k1 
  have ce0 := X1.out.loc.cell 0
  have fz0 := X1.out.loc.loose 0
  simp [anC] at ce0
  have Y1 := Lib.hid ((X1.out.put 0 (.int .i64 (rdN 1 l).1) (⟨(rdN 1 l).1, 0, [], 0, 0, 0, 0, 0, 0, 0, []⟩ : An) (by simp only [anC, List.set_cons_zero]) (by simp only) (by simp only)))
  go_wp2_with fail
  refine (aCode_any _ (an1 l) _ Y1.out.rr).mono ?_
  rintro e w2 ⟨rfl, h2, k2⟩
  have X2 := Lib.hid ((Y1.out.next h2 k2).eq (l' := an2 l) (by simp only [an2]) (a' := (⟨(rdN 1 l).1, 0, [], 0, 0, 0, 0, 0, 0, 0, []⟩ : An)) rfl)
  clear h2 k2  ce0 fz0
  have ce1 := X2.out.loc.cell 1
  have fz1 := X2.out.loc.loose 1
  simp [anC] at ce1
  have Y2 := Lib.hid ((X2.out.put 1 (.int .i64 (rdN 1 (an1 l)).1) (⟨(rdN 1 l).1, (rdN 1 (an1 l)).1, [], 0, 0, 0, 0, 0, 0, 0, []⟩ : An) (by simp only [anC, List.set_cons_succ, List.set_cons_zero]) (by simp only) (by simp only)))
  go_wp2_with fail
  refine (aNumber_any _ (an2 l) 4 _ (by decide) Y2.out.rr).mono ?_
  rintro e w3 ⟨rfl, h3, k3⟩
  have X3 := Lib.hid ((Y2.out.next h3 k3).eq (l' := an3 l) (by simp only [an3]) (a' := (⟨(rdN 1 l).1, (rdN 1 (an1 l)).1, [], 0, 0, 0, 0, 0, 0, 0, []⟩ : An)) rfl)
  clear h3 k3  ce1 fz1
  have ce3 := X3.out.loc.cell 3
  have fz3 := X3.out.loc.loose 3
  simp [anC] at ce3
  have Y3 := Lib.hid ((X3.out.put 3 (.int .i64 (rdN 4 (an2 l)).1) (⟨(rdN 1 l).1, (rdN 1 (an1 l)).1, [], (rdN 4 (an2 l)).1, 0, 0, 0, 0, 0, 0, []⟩ : An) (by simp only [anC, List.set_cons_succ, List.set_cons_zero]) (by simp only) (by simp only)))
  go_wp2_with fail
  refine (aPolicy_any _ (an3 l) _ Y3.out.rr).mono ?_
  rintro e w4 ⟨rfl, h4, k4⟩
  have X4 := Lib.hid ((Y3.out.next h4 k4).eq (l' := an7 l) (by simp only [an7, an6, an5, an4]) (a' := (⟨(rdN 1 l).1, (rdN 1 (an1 l)).1, [], (rdN 4 (an2 l)).1, 0, 0, 0, 0, 0, 0, []⟩ : An)) rfl)
  clear h4 k4  ce3 fz3
  have ce4 := X4.out.loc.cell 4
  have fz4 := X4.out.loc.loose 4
  simp [anC] at ce4
  have ce5 := X4.out.loc.cell 5
  have fz5 := X4.out.loc.loose 5
  simp [anC] at ce5
  have ce6 := X4.out.loc.cell 6
  have fz6 := X4.out.loc.loose 6
  simp [anC] at ce6
  have ce7 := X4.out.loc.cell 7
  have fz7 := X4.out.loc.loose 7
  simp [anC] at ce7
  have Y4 := Lib.hid (((((X4.out.put 4 (.int .i64 (rdN 1 (an3 l)).1) (⟨(rdN 1 l).1, (rdN 1 (an1 l)).1, [], (rdN 4 (an2 l)).1, (rdN 1 (an3 l)).1, 0, 0, 0, 0, 0, []⟩ : An) (by simp only [anC, List.set_cons_succ, List.set_cons_zero]) (by simp only) (by simp only)).put 5 (.int .i64 (rdN 4 (an4 l)).1) (⟨(rdN 1 l).1, (rdN 1 (an1 l)).1, [], (rdN 4 (an2 l)).1, (rdN 1 (an3 l)).1, (rdN 4 (an4 l)).1, 0, 0, 0, 0, []⟩ : An) (by simp only [anC, List.set_cons_succ, List.set_cons_zero]) (by simp only) (by simp only)).put 6 (.int .i64 (rdN 4 (an5 l)).1) (⟨(rdN 1 l).1, (rdN 1 (an1 l)).1, [], (rdN 4 (an2 l)).1, (rdN 1 (an3 l)).1, (rdN 4 (an4 l)).1, (rdN 4 (an5 l)).1, 0, 0, 0, []⟩ : An) (by simp only [anC, List.set_cons_succ, List.set_cons_zero]) (by simp only) (by simp only)).put 7 (.int .i64 (rdN 1 (an6 l)).1) (⟨(rdN 1 l).1, (rdN 1 (an1 l)).1, [], (rdN 4 (an2 l)).1, (rdN 1 (an3 l)).1, (rdN 4 (an4 l)).1, (rdN 4 (an5 l)).1, (rdN 1 (an6 l)).1, 0, 0, []⟩ : An) (by simp only [anC, List.set_cons_succ, List.set_cons_zero]) (by simp only) (by simp only)))
  go_wp2_with fail
  refine (aNumber_any _ (an7 l) 6 _ (by decide) Y4.out.rr).mono ?_
  rintro e w5 ⟨rfl, h5, k5⟩
  have X5 := Lib.hid ((Y4.out.next h5 k5).eq (l' := an8 l) (by simp only [an8]) (a' := (⟨(rdN 1 l).1, (rdN 1 (an1 l)).1, [], (rdN 4 (an2 l)).1, (rdN 1 (an3 l)).1, (rdN 4 (an4 l)).1, (rdN 4 (an5 l)).1, (rdN 1 (an6 l)).1, 0, 0, []⟩ : An)) rfl)
  clear h5 k5  ce4 fz4 ce5 fz5 ce6 fz6 ce7 fz7
  have ce8 := X5.out.loc.cell 8
  have fz8 := X5.out.loc.loose 8
  simp [anC] at ce8
  have Y5 := Lib.hid ((X5.out.put 8 (.int .i64 (rdN 6 (an7 l)).1) (⟨(rdN 1 l).1, (rdN 1 (an1 l)).1, [], (rdN 4 (an2 l)).1, (rdN 1 (an3 l)).1, (rdN 4 (an4 l)).1, (rdN 4 (an5 l)).1, (rdN 1 (an6 l)).1, (rdN 6 (an7 l)).1, 0, []⟩ : An) (by simp only [anC, List.set_cons_succ, List.set_cons_zero]) (by simp only) (by simp only)))
  go_wp2_with fail
  refine (aNumber_any _ (an8 l) 2 _ (by decide) Y5.out.rr).mono ?_
  rintro e w6 ⟨rfl, h6, k6⟩
  have X6 := Lib.hid ((Y5.out.next h6 k6).eq (l' := an9 l) (by simp only [an9]) (a' := (⟨(rdN 1 l).1, (rdN 1 (an1 l)).1, [], (rdN 4 (an2 l)).1, (rdN 1 (an3 l)).1, (rdN 4 (an4 l)).1, (rdN 4 (an5 l)).1, (rdN 1 (an6 l)).1, (rdN 6 (an7 l)).1, 0, []⟩ : An)) rfl)
  clear h6 k6  ce8 fz8
  have ce9 := X6.out.loc.cell 9
  have fz9 := X6.out.loc.loose 9
  simp [anC] at ce9
  have Y6 := Lib.hid ((X6.out.put 9 (.int .i64 (rdN 2 (an8 l)).1) (⟨(rdN 1 l).1, (rdN 1 (an1 l)).1, [], (rdN 4 (an2 l)).1, (rdN 1 (an3 l)).1, (rdN 4 (an4 l)).1, (rdN 4 (an5 l)).1, (rdN 1 (an6 l)).1, (rdN 6 (an7 l)).1, (rdN 2 (an8 l)).1, []⟩ : An) (by simp only [anC, List.set_cons_succ, List.set_cons_zero]) (by simp only) (by simp only)))
  obtain ⟨M, hM⟩ : ∃ M : Nat, M = (min (rdN 1 (an9 l)).1 32).toNat := ⟨_, rfl⟩
  have HM := Lib.hid hM
  have hmn : min (rdN 1 (an9 l)).1 32 = (M : Int) := by have := (rdN_fit 1 (an9 l)).1; omega
  have hm32 : M ≤ 32 := by omega
  have HMN := Lib.hid hmn
  clear hM hmn
  go_wp2_with fail
  refine (aItems_any _ (an9 l) M HMN.out _ Y6.out.rr).mono ?_
  rintro e w7 ⟨rfl, h7, k7⟩
  have X7 := Lib.hid ((Y6.out.next h7 k7).eq (l' := an10 l) (by simp only [an10]) rfl)
  obtain ⟨a0, ha0⟩ : ∃ a0 : An, a0 = (⟨(rdN 1 l).1, (rdN 1 (an1 l)).1, [], (rdN 4 (an2 l)).1, (rdN 1 (an3 l)).1, (rdN 4 (an4 l)).1, (rdN 4 (an5 l)).1, (rdN 1 (an6 l)).1, (rdN 6 (an7 l)).1, (rdN 2 (an8 l)).1, []⟩ : An) := ⟨_, rfl⟩
  rw [← ha0] at X7
  have A0 := Lib.hid ha0
  have AT := Lib.hid (show a0.told = [] by rw [ha0])
  have AN := Lib.hid (show a0.names = [] by rw [ha0])
  obtain ⟨L10, hL10⟩ : ∃ L, L = an10 l := ⟨_, rfl⟩
  rw [← hL10] at X7
  have HL10 := Lib.hid hL10
  clear ha0 hL10 Y0 Y1 Y2 Y3 Y4 Y5 Y6 X1 X2 X3 X4 X5 X6
  clear h7 k7  ce9 fz9
  go_wp2_with fail
  go_loopw [28] (fun i wr => ∃ (q : Nat) (A : Option Addr) (ca : Nat), q ≤ M ∧ i = .int .i64 q ∧ AW (rdR rdTd q L10).2 { a0 with told := (rdR rdTd q L10).1 } A ca none 0 w wr) (fun i _ => M - (intOf i).toNat)
  case atStart => exact ⟨0, none, 0, Nat.zero_le _, rfl, X7.out.eq (by simp only [rdR]) (by simp only [rdR, ← AT.out])⟩
  case round =>
    obtain ⟨q, A, ca, hq, rfl, hx⟩ := hrel
    have XR := Lib.hid hx
    clear hx
    by_cases hlt : q < M
    · obtain ⟨R, hR⟩ : ∃ R, R = rdR rdTd q L10 := ⟨_, rfl⟩
      have RN := Lib.hid (rdR_snoc rdTd q L10)
      have RL := Lib.hid (rdR_len rdTd q L10)
      rw [← hR] at RN RL XR
      obtain ⟨Tq, Lq⟩ := R
      obtain ⟨tl, htl⟩ : ∃ tl, tl = rdTd Lq := ⟨_, rfl⟩
      obtain ⟨t, L'⟩ := tl
      have HTL := Lib.hid htl.symm
      simp only at RN RL XR
      rw [← htl] at RN
      clear hR htl
      have TQ := Lib.hid (show Tq.length ≤ 100000 by have := RL.out; omega)
      go_wp2_with fail
      have v0 := XR.out.loc.cell 2
      simp [anC] at v0
      go_region_law (first | (refine step_append_seq (C := tdC) tdC_len (by decide) tdC_one w.heap.size Try.underlying40 infoTd rfl (by decide) (w8.alloc (.cells #[.int .i64 t.code, .bool t.al, .int .i64 t.rem, .int .i64 t.ret, .int .i64 t.res] 70)) rfl (.tmp 31) (.tmp 34) rfl (.slice A Tq.length ca) Tq t w8.heap.size 1 70 (by simp [Act.eval]) (by simp [Act.eval]) (Has.made w8 70 (tdC t)) XA.out.ot XA.out.size TQ.out ?_; intro g cap w9 ho hk _ _; have X9 := Lib.hid (XA.out.told ho hk); have u5 := (XA.out.keptT hk).loose 2; have u6 := (XA.out.keptT hk).cell 2; simp [anC] at u6; clear ho hk) | (go_simp; go_wp2_with (go_at_call 68; (with_reducible refine (aTold_td _ Lq L' t HTL.out _ XR.out.drew.rr).mono ?_); rintro e w8 ⟨rfl, h8, k8⟩; have X8 := Lib.hid (XR.out.drew.next h8 k8); have XA := Lib.hid (X8.out.alloc (.cells #[.int .i64 t.code, .bool t.al, .int .i64 t.rem, .int .i64 t.ret, .int .i64 t.res] 70)); have g8 := X8.out.loc.lt; have v8 := X8.out.loc.cell 2; simp [anC] at v8; clear h8 k8)))
      all_goals
        go_wp2_with fail
        go_roundw
        case rel => exact ⟨q + 1, _, _, by omega, by go_num, X9.out.eq (by rw [RN.out]) (by rw [RN.out])⟩
        case measure => simp [intOf]; omega
    · obtain rfl : q = M := by omega
      obtain ⟨R, hR⟩ : ∃ R, R = rdR rdTd q L10 := ⟨_, rfl⟩
      have E11 := Lib.hid (show R.2 = an11 l by rw [hR, HL10.out, HM.out, an11])
      have ET := Lib.hid hR
      rw [← hR] at XR
      clear hR
      obtain ⟨TT, L11⟩ := R
      simp only at XR E11
      obtain ⟨a1, ha1⟩ : ∃ a1 : An, a1 = { a0 with told := TT } := ⟨_, rfl⟩
      have A1 := Lib.hid ha1
      have AN1 := Lib.hid (show a1.names = [] by rw [ha1]; exact AN.out)
      rw [← ha1] at XR
      clear ha1
      obtain ⟨M2, hM2⟩ : ∃ M : Nat, M = (min (rdN 1 L11).1 32).toNat := ⟨_, rfl⟩
      have HM2 := Lib.hid hM2
      have hmn2 : min (rdN 1 L11).1 32 = (M2 : Int) := by have := (rdN_fit 1 L11).1; omega
      have hm322 : M2 ≤ 32 := by omega
      have HMN2 := Lib.hid hmn2
      clear hM2 hmn2
      go_wp2_with fail
      refine (aItems_any _ L11 M2 HMN2.out _ XR.out.rr).mono ?_
      rintro e w10 ⟨rfl, h10, k10⟩
      have X10 := Lib.hid (XR.out.next h10 k10)
      obtain ⟨L12, hL12⟩ : ∃ L, L = (rdN 1 L11).2 := ⟨_, rfl⟩
      rw [← hL12] at X10
      have HL12 := Lib.hid hL12
      have AO := Lib.hid (show a1.told.length = a1.told.length from rfl)
      clear hL12 h10 k10
      obtain ⟨NA, cn, hna⟩ : ∃ (NA : Option Addr) (cn : Nat), NA = none ∧ cn = 0 := ⟨_, _, rfl, rfl⟩
      go_wp2_with fail
      go_loopw [40] (fun i wr => ∃ (q : Nat) (N : Option Addr) (cn : Nat), q ≤ M2 ∧ i = .int .i64 q ∧ AW (rdR rdNm q L12).2 { a1 with names := (rdR rdNm q L12).1 } A ca N cn w wr) (fun i _ => M2 - (intOf i).toNat)
      case atStart => exact ⟨0, none, 0, Nat.zero_le _, rfl, X10.out.eq (by simp only [rdR]) (by simp only [rdR, ← AN1.out])⟩
      case round =>
        obtain ⟨q, N, cn, hq, rfl, hx⟩ := hrel
        have XR := Lib.hid hx
        clear hx
        by_cases hlt : q < M2
        · obtain ⟨R, hR⟩ : ∃ R, R = rdR rdNm q L12 := ⟨_, rfl⟩
          have RN := Lib.hid (rdR_snoc rdNm q L12)
          have RL := Lib.hid (rdR_len rdNm q L12)
          rw [← hR] at RN RL XR
          obtain ⟨Tq, Lq⟩ := R
          obtain ⟨tl, htl⟩ : ∃ tl, tl = rdNm Lq := ⟨_, rfl⟩
          obtain ⟨t, L'⟩ := tl
          have HTL := Lib.hid htl.symm
          simp only at RN RL XR
          rw [← htl] at RN
          clear hR htl
          have TQ := Lib.hid (show Tq.length ≤ 100000 by have := RL.out; omega)
          go_wp2_with fail
          have v0 := XR.out.loc.cell 10
          simp [anC] at v0
          go_region_law (first | (refine step_append_seq (C := nmC) nmC_len (by decide) nmC_one w.heap.size Try.underlying41 infoNm rfl (by decide) (w8.alloc (.cells #[.int .i64 t.book, .string t.key] 26)) rfl (.tmp 43) (.tmp 46) rfl (.slice N Tq.length cn) Tq t w8.heap.size 1 26 (by simp [Act.eval]) (by simp [Act.eval]) (Has.made w8 26 (nmC t)) XA.out.on XA.out.size TQ.out ?_; intro g cap w9 ho hk _ _; have X9 := Lib.hid (XA.out.name ho hk); have u5 := (XA.out.keptN hk).loose 10; have u6 := (XA.out.keptN hk).cell 10; simp [anC] at u6; clear ho hk) | (go_simp; go_wp2_with (go_at_call 69; (with_reducible refine (aName_nm _ Lq L' t HTL.out _ XR.out.drew.rr).mono ?_); rintro e w8 ⟨rfl, h8, k8⟩; have X8 := Lib.hid (XR.out.drew.next h8 k8); have XA := Lib.hid (X8.out.alloc (.cells #[.int .i64 t.book, .string t.key] 26)); have g8 := X8.out.loc.lt; have v8 := X8.out.loc.cell 10; simp [anC] at v8; clear h8 k8)))
          all_goals
            go_wp2_with fail
            go_roundw
            case rel => exact ⟨q + 1, _, _, by omega, by go_num, X9.out.eq (by rw [RN.out]) (by rw [RN.out])⟩
            case measure => simp [intOf]; omega
        · obtain rfl : q = M2 := by omega
          obtain ⟨R, hR⟩ : ∃ R, R = rdR rdNm q L12 := ⟨_, rfl⟩
          have EN := Lib.hid hR
          rw [← hR] at XR
          clear hR
          obtain ⟨NN, L13⟩ := R
          simp only at XR
          obtain ⟨a2, ha2⟩ : ∃ a2 : An, a2 = { a1 with names := NN } := ⟨_, rfl⟩
          have EA := Lib.hid (show a2 = rdAn l by
            have e1 := E11.out
            have e2 := congrArg Prod.fst ET.out
            have e3 := congrArg Prod.fst EN.out
            simp only at e2 e3
            rw [ha2, A1.out, A0.out, e2, e3, HL10.out, HL12.out, HM2.out, HM.out, e1]
            simp only [rdAn, an12])
          rw [← ha2] at XR
          clear ha2
          have KS := Lib.hid (show ∀ n ∈ a2.names, n.key.size ≤ maxLen by
            rw [EA.out]
            intro n hn
            have := ((rdAn_ok l).nms n hn).2
            unfold maxLen; omega)
          have rc0 := XR.out.res.cell 0
          have rf0 := XR.out.res.loose 0
          have lc0 := XR.out.loc.cell 0
          simp [anC, zAn] at rc0 lc0
          have rc1 := XR.out.res.cell 1
          have rf1 := XR.out.res.loose 1
          have lc1 := XR.out.loc.cell 1
          simp [anC, zAn] at rc1 lc1
          have rc2 := XR.out.res.cell 2
          have rf2 := XR.out.res.loose 2
          have lc2 := XR.out.loc.cell 2
          simp [anC, zAn] at rc2 lc2
          have rc3 := XR.out.res.cell 3
          have rf3 := XR.out.res.loose 3
          have lc3 := XR.out.loc.cell 3
          simp [anC, zAn] at rc3 lc3
          have rc4 := XR.out.res.cell 4
          have rf4 := XR.out.res.loose 4
          have lc4 := XR.out.loc.cell 4
          simp [anC, zAn] at rc4 lc4
          have rc5 := XR.out.res.cell 5
          have rf5 := XR.out.res.loose 5
          have lc5 := XR.out.loc.cell 5
          simp [anC, zAn] at rc5 lc5
          have rc6 := XR.out.res.cell 6
          have rf6 := XR.out.res.loose 6
          have lc6 := XR.out.loc.cell 6
          simp [anC, zAn] at rc6 lc6
          have rc7 := XR.out.res.cell 7
          have rf7 := XR.out.res.loose 7
          have lc7 := XR.out.loc.cell 7
          simp [anC, zAn] at rc7 lc7
          have rc8 := XR.out.res.cell 8
          have rf8 := XR.out.res.loose 8
          have lc8 := XR.out.loc.cell 8
          simp [anC, zAn] at rc8 lc8
          have rc9 := XR.out.res.cell 9
          have rf9 := XR.out.res.loose 9
          have lc9 := XR.out.loc.cell 9
          simp [anC, zAn] at rc9 lc9
          have rc10 := XR.out.res.cell 10
          have rf10 := XR.out.res.loose 10
          have lc10 := XR.out.loc.cell 10
          simp [anC, zAn] at rc10 lc10
          have DN := Lib.hid (fun w2 (hk : Kept (fun b => b = w.heap.size) wr w2) => XR.out.done hk KS.out)
          go_wp2
          refine bodyPost_ret (v := .agg #[.int .i64 a2.kind, .int .i64 a2.code, .slice A a2.told.length ca, .int .i64 a2.ver, .int .i64 a2.pk, .int .i64 a2.pl, .int .i64 a2.pw, .int .i64 a2.pb, .int .i64 a2.now, .int .i64 a2.count, .slice N a2.names.length cn]) (by simp [results, Try.results46, go_sem, rc0, rc1, rc2, rc3, rc4, rc5, rc6, rc7, rc8, rc9, rc10]) rfl ?_
          refine ⟨_, rfl, ?_⟩
          rw [← EA.out]
          refine And.symm (DN.out _ ?_)
          repeat (first | refine Kept.setCell (F := fun b => b = w.heap.size) (p := ⟨w.heap.size, _, none⟩) ?_ (Or.inl (Eq.refl w.heap.size)) _ | with_reducible exact Kept.refl _ _)
end Go.Proofs.Ytljllfopgpmekab
