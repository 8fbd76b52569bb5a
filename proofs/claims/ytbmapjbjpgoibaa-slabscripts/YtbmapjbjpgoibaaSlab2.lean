/- The contracts of slab's Take and Give. -/
import Derived.Test.YtbmapjbjpgoibaaSlab1
import Derived.Lib.SliceRun
import Derived.OwnWalk
namespace Go.Proofs.Ytbmapjbjpgoibaa
open Go.ChangeShapes Go.WideShapes Go.ChangeAt Go.RowKit
set_option linter.unusedVariables false

/-- A whole row is stored anew. -/
theorem Has.setCells {w : World} {g : Nat} {t : TypeId} (vs : List Value) : ∀ {l : List Value} {o : Nat}, Has w g t l → o + vs.length ≤ l.length → Has (w.setCells g o vs) g t (l.take o ++ vs ++ l.drop (o + vs.length)) := by
  induction vs generalizing w with
  | nil => intro l o h _; simpa [World.setCells] using h
  | cons v vs ih =>
    intro l o h hl
    have h1 := ih (h.store o v) (o := o + 1) (by simp at hl ⊢; omega)
    have e : (l.set o v).take (o + 1) ++ vs ++ (l.set o v).drop (o + 1 + vs.length) = l.take o ++ v :: vs ++ l.drop (o + (v :: vs).length) := by
      simp at hl
      rw [List.take_set, List.drop_set_of_lt (by omega), List.take_succ_eq_append_getElem (by omega), List.set_append_right _ _ (by simp; omega)]
      simp [Nat.min_eq_left (show o ≤ l.length by omega)]
      congr 1
      omega
    rw [← e]
    simpa [World.setCells] using h1
theorem Has.setAll {w : World} {g : Nat} {t : TypeId} {l vs : List Value} (h : Has w g t l) (hl : vs.length = l.length) : Has (w.setCells g 0 vs) g t vs := by
  have := h.setCells vs (o := 0) (by omega)
  simpa [hl] using this
theorem Kept.setCells {F : Nat → Prop} {a w : World} {g : Nat} (vs : List Value) : ∀ {o : Nat}, Kept F a w → (F g ∨ a.heap.size ≤ g) → Kept F a (w.setCells g o vs) := by
  induction vs generalizing w with
  | nil => intro o h _; simpa [World.setCells] using h
  | cons v vs ih => intro o h hg; simpa [World.setCells] using ih (h.setCell (p := ⟨g, o, none⟩) hg v) hg

theorem Try.zeroU64 : ∀ w, (zeroValue 49).run Try.prog w = .ok (.int .u64 0) w := fun w => by
  have : (Try.prog.info? 49).map (fun i => i.zero) = some (some (.int .u64 0)) := by kernel_rfl
  cases h : Try.prog.info? 49 with
  | none => rw [h] at this; cases this
  | some i => rw [h] at this; simp at this; simp [zeroValue, typeInfo, h, this]
theorem clear_row (w : World) (g k ty : Nat) (l : List Value) (h : Has w g 49 l) (hl : l.length = k) :
    (Builtin.clear_ #[33] ty #[.slice (some ⟨g, 0, none⟩) k k]).run Try.prog w = .ok (.tuple #[]) (w.setCells g 0 (List.replicate k (.int .u64 0))) := by
  rcases Nat.eq_zero_or_pos k with h0 | h0
  · subst h0
    simp [Builtin.clear_, run_underlying Try.underlying33, World.setCells]
  · refine Lib.run_clear_slice w _ 49 ty (.int .u64 0) Try.underlying33 Try.zeroU64 rfl rfl g 0 k k h0 (fun j hj => ?_) (fun j hj => ?_)
    · rw [Nat.zero_add, h.cell, List.getElem?_eq_getElem (by omega)]; rfl
    · exact h.loose _

/-- A value is told; the slab is s' now; nothing but its blocks, and new ones, has changed. -/
def SlabTells (bP bC bF k : Nat) (s s' : Sl) (v : Value) (w : World) (e : Ending) (w' : World) : Prop :=
  e = .returned v ∧ IsSlab w' bP bC bF k s' ∧ Kept (foot bP bC bF s) w w'
def Sl.put (s : Sl) (i : Nat) (c : SC) (fr : List Nat) : Sl := ⟨s.cells.set i c, fr⟩
theorem blks_put {l : List SC} {i : Nat} {c c' : SC} (hc : l[i]? = some c) (hb : c'.blk = c.blk) : (l.set i c').map SC.blk = l.map SC.blk := by
  apply List.ext_getElem?
  intro j
  rw [List.getElem?_map, List.getElem?_map, List.getElem?_set]
  by_cases e : i = j
  · subst e
    have := (List.getElem?_eq_some_iff.1 hc).1
    rw [if_pos rfl, if_pos this, hc]; simp [hb]
  · rw [if_neg e]
theorem foot_put {bP bC bF : Nat} {s : Sl} {i : Nat} {c c' : SC} {fr : List Nat} (hc : s.cells[i]? = some c) (hb : c'.blk = c.blk) (b : Nat) : foot bP bC bF (s.put i c' fr) b ↔ foot bP bC bF s b := by
  have e := blks_put hc hb
  have key : ∀ l : List SC, (∃ x ∈ l, b = x.blk) ↔ b ∈ l.map SC.blk := fun l => by
    rw [List.mem_map]; exact ⟨fun ⟨x, h1, h2⟩ => ⟨x, h1, h2.symm⟩, fun ⟨x, h1, h2⟩ => ⟨x, h1, h2.symm⟩⟩
  unfold foot Sl.put
  rw [key, key, e]

theorem IsSlab.ne {w : World} {bP bC bF k : Nat} {s : Sl} (h : IsSlab w bP bC bF k s) : bP ≠ bC ∧ bP ≠ bF ∧ bC ≠ bF ∧ (∀ c ∈ s.cells, bP ≠ c.blk ∧ bC ≠ c.blk ∧ bF ≠ c.blk) := by
  have := h.nd
  simp only [List.nodup_cons, List.mem_cons, List.mem_map, not_or, not_exists, not_and] at this
  obtain ⟨⟨h1, h2, h3⟩, ⟨h4, h5⟩, h6, _⟩ := this
  exact ⟨h1, h2, h4, fun c hc => ⟨fun e => h3 c hc e.symm, fun e => h5 c hc e.symm, fun e => h6 c hc e.symm⟩⟩
theorem IsSlab.apart {w : World} {bP bC bF k : Nat} {s : Sl} (h : IsSlab w bP bC bF k s) {i j : Nat} {c d : SC} (hc : s.cells[i]? = some c) (hd : s.cells[j]? = some d) (hij : i ≠ j) : c.blk ≠ d.blk := by
  have := h.nd
  simp only [List.nodup_cons] at this
  have nd := this.2.2.2
  intro e
  have hi : i < (s.cells.map SC.blk).length := by simpa using (List.getElem?_eq_some_iff.1 hc).1
  have hj : j < (s.cells.map SC.blk).length := by simpa using (List.getElem?_eq_some_iff.1 hd).1
  have e1 : (s.cells.map SC.blk)[i] = c.blk := by
    have h1 := List.getElem?_map (f := SC.blk) (l := s.cells) (i := i)
    rw [hc, List.getElem?_eq_getElem hi] at h1
    simpa using h1
  have e2 : (s.cells.map SC.blk)[j] = d.blk := by
    have h1 := List.getElem?_map (f := SC.blk) (l := s.cells) (i := j)
    rw [hd, List.getElem?_eq_getElem hj] at h1
    simpa using h1
  have pw := List.pairwise_iff_getElem.1 nd
  rcases Nat.lt_or_gt_of_ne hij with hlt | hlt
  · exact pw i j hi hj hlt (by rw [e1, e2, e])
  · exact pw j i hj hi hlt (by rw [e1, e2, e])

/-- One cell is put anew, and the row of free ones: what that takes. -/
theorem IsSlab.put {w w' : World} {bP bC bF k : Nat} {s : Sl} {i : Nat} {c c' : SC} {fr rest : List Nat} {l : List Value} (h : IsSlab w bP bC bF k s) (hc : s.cells[i]? = some c) (hb : c'.blk = c.blk)
    (hd : Has w' bP 56 [.slice (some ⟨bC, 0, none⟩) s.cells.length s.cells.length, .slice (some ⟨bF, 0, none⟩) fr.length s.cells.length])
    (hcs : Has w' bC 58 (flat k (s.cells.set i c')))
    (hfr : Has w' bF 3 (intsV fr ++ l)) (hfl : fr.length + l.length = s.cells.length) (hfi : ∀ j ∈ fr, j < s.cells.length) (hgn : c'.gen ≤ 1000000)
    (hws : Has w' c.blk 49 (wordsV c'.ws)) (hwl : c'.ws.length = k) (hwa : AllW c'.ws)
    (hoth : ∀ b, b < w.heap.size → b ≠ bP → b ≠ bC → b ≠ bF → b ≠ c.blk → w'.heap[b]? = w.heap[b]?) : IsSlab w' bP bC bF k (s.put i c' fr) := by
  have hn : (s.put i c' fr).cells.length = s.cells.length := by simp [Sl.put]
  obtain ⟨n1, n2, n3, n4⟩ := h.ne
  refine ⟨by rw [hn]; exact hd, hcs, ⟨l, hfr, by rw [hn]; exact hfl⟩, fun d hd' => ?_, by rw [show (s.put i c' fr).cells.map SC.blk = s.cells.map SC.blk from blks_put hc hb]; exact h.nd, by rw [hn]; exact h.n1, by rw [hn]; exact h.n64, h.k32, by rw [hn]; exact hfi, fun d hd' => ?_⟩
  · obtain ⟨j, hj⟩ := List.getElem?_of_mem hd'
    rw [show (s.put i c' fr).cells = s.cells.set i c' from rfl, List.getElem?_set] at hj
    by_cases e : i = j
    · rw [if_pos e, if_pos (List.getElem?_eq_some_iff.1 hc).1] at hj
      injection hj with hj
      subst hj
      exact ⟨by rw [hb]; exact hws, hwl, hwa⟩
    · rw [if_neg e] at hj
      have hm := List.mem_of_getElem? hj
      have h1 := h.ws d hm
      refine ⟨?_, h1.2⟩
      have := h1.1
      have hlt := this.lt
      unfold Has at *
      rw [hoth d.blk hlt (fun e => (n4 d hm).1 e.symm) (fun e => (n4 d hm).2.1 e.symm) (fun e => (n4 d hm).2.2 e.symm) (fun e2 => h.apart hc hj e e2.symm)]
      exact this
  · rcases List.mem_or_eq_of_mem_set (show d ∈ s.cells.set i c' from hd') with hm | rfl
    · exact h.gn d hm
    · exact hgn

theorem zeros_V (k : Nat) : wordsV (List.replicate k 0) = List.replicate k (.int .u64 0) := by simp [wordsV]

/-- The world that Take leaves. -/
theorem IsSlab.take {w : World} {bP bC bF k : Nat} {s : Sl} {i : Nat} {c : SC} {fs : List Nat} (h : IsSlab w bP bC bF k s) (hc : s.cells[i]? = some c) (hf : s.free = fs ++ [i]) :
    IsSlab (((w.setCell ⟨bP, 1, none⟩ (.slice (some ⟨bF, 0, none⟩) fs.length s.cells.length)).setCell ⟨bC, i * 3, none⟩ (.bool true)).setCells c.blk 0 (List.replicate k (.int .u64 0))) bP bC bF k (s.put i { c with taken := true, ws := List.replicate k 0 } fs) ∧
    Kept (foot bP bC bF s) w (((w.setCell ⟨bP, 1, none⟩ (.slice (some ⟨bF, 0, none⟩) fs.length s.cells.length)).setCell ⟨bC, i * 3, none⟩ (.bool true)).setCells c.blk 0 (List.replicate k (.int .u64 0))) ∧
    Has ((w.setCell ⟨bP, 1, none⟩ (.slice (some ⟨bF, 0, none⟩) fs.length s.cells.length)).setCell ⟨bC, i * 3, none⟩ (.bool true)) c.blk 49 (wordsV c.ws) := by
  obtain ⟨n1, n2, n3, n4⟩ := h.ne
  have hm := List.mem_of_getElem? hc
  obtain ⟨m1, m2, m3⟩ := n4 c hm
  obtain ⟨hw1, hw2, hw3⟩ := h.ws c hm
  obtain ⟨rest, hr, hrl⟩ := h.fr
  have hws : Has ((w.setCell ⟨bP, 1, none⟩ (.slice (some ⟨bF, 0, none⟩) fs.length s.cells.length)).setCell ⟨bC, i * 3, none⟩ (.bool true)) c.blk 49 (wordsV c.ws) := (hw1.apart (p := ⟨bP, 1, none⟩) m1.symm _).apart (p := ⟨bC, i * 3, none⟩) m2.symm _
  have hK : Kept (foot bP bC bF s) w ((w.setCell ⟨bP, 1, none⟩ (.slice (some ⟨bF, 0, none⟩) fs.length s.cells.length)).setCell ⟨bC, i * 3, none⟩ (.bool true)) :=
    ((Kept.refl _ _).setCell (p := ⟨bP, 1, none⟩) (.inl (.inl rfl)) _).setCell (p := ⟨bC, i * 3, none⟩) (.inl (.inr (.inl rfl))) _
  have oth : ∀ b, b ≠ c.blk → ∀ t l, Has ((w.setCell ⟨bP, 1, none⟩ (.slice (some ⟨bF, 0, none⟩) fs.length s.cells.length)).setCell ⟨bC, i * 3, none⟩ (.bool true)) b t l → Has (((w.setCell ⟨bP, 1, none⟩ (.slice (some ⟨bF, 0, none⟩) fs.length s.cells.length)).setCell ⟨bC, i * 3, none⟩ (.bool true)).setCells c.blk 0 (List.replicate k (.int .u64 0))) b t l := fun b hb t l hh =>
    hh.kept (F := fun x => x = c.blk) (Kept.setCells _ (Kept.refl _ _) (.inl rfl)) hb
  refine ⟨h.put (c' := { c with taken := true, ws := List.replicate k 0 }) (fr := fs) (l := .int .i64 i :: rest) (rest := []) hc rfl ?_ ?_ ?_ ?_ ?_ (h.gn c hm) ?_ (by simp) (by intro n hn; simp at hn; omega) ?_, Kept.setCells _ hK (.inl (.inr (.inr (.inr ⟨c, hm, rfl⟩)))), hws⟩
  · exact oth _ m1 _ _ ((h.hd.store 1 _).apart (p := ⟨bC, i * 3, none⟩) n1 _)
  · refine oth _ m2 _ _ ?_
    have h1 := (h.cs.apart (p := ⟨bP, 1, none⟩) n1.symm (.slice (some ⟨bF, 0, none⟩) fs.length s.cells.length)).store (i * 3 + 0) (.bool true)
    rw [flat, flatMap_set (scV k) 3 (scV_len k) s.cells i 0 (by omega) c { c with taken := true, ws := List.replicate k 0 } _ hc rfl] at h1
    exact h1
  · refine oth _ m3 _ _ ?_
    have h1 := (hr.apart (p := ⟨bP, 1, none⟩) n2.symm (.slice (some ⟨bF, 0, none⟩) fs.length s.cells.length)).apart (p := ⟨bC, i * 3, none⟩) n3.symm (.bool true)
    rw [hf] at h1
    simpa [intsV] using h1
  · rw [hf] at hrl; simp at hrl ⊢; omega
  · intro j hj; exact h.fi j (by rw [hf]; simp [hj])
  · rw [zeros_V]; exact hws.setAll (by simp [wordsV, hw2])
  · intro b hb e1 e2 e3 e4
    have hk2 : Kept (fun x => x = c.blk) _ _ := Kept.setCells (F := fun x => x = c.blk) (g := c.blk) (List.replicate k (Value.int .u64 0)) (o := 0) (Kept.refl _ ((w.setCell ⟨bP, 1, none⟩ (.slice (some ⟨bF, 0, none⟩) fs.length s.cells.length)).setCell ⟨bC, i * 3, none⟩ (.bool true))) (.inl rfl)
    rw [hk2.block b (by simpa [World.setCell] using hb) e4, Below.heap_setCell _ _ _ _ e2, Below.heap_setCell _ _ _ _ e1]

set_option maxRecDepth 100000 in
theorem Take_yes (bP bC bF k i : Nat) (s : Sl) (c : SC) (fs : List Nat) (w : World) (h : IsSlab w bP bC bF k s) (hc : s.cells[i]? = some c) (hf : s.free = fs ++ [i]) :
    Calls Try.prog 14 #[.pointer (some ⟨bP, 0, none⟩)] w (SlabTells bP bC bF k s (s.put i { c with taken := true, ws := List.replicate k 0 } fs) (.tuple #[.int .i64 ((c.gen : Int) * 64 + i), .int .i64 0]) w) := by
  obtain ⟨n1, n2, n3, n4⟩ := h.ne
  obtain ⟨m1, m2, m3⟩ := n4 c (List.mem_of_getElem? hc)
  have HF := Lib.hid (Free_any bP bC bF k s w h)
  obtain ⟨hA, hB, hC⟩ := h.take hc hf
  have HA := Lib.hid hA
  have HB := Lib.hid hB
  have HCL := Lib.hid (clear_row _ _ k · _ hC (by simp [wordsV, (h.ws c (List.mem_of_getElem? hc)).2.1]))
  have p0 := h.p0
  have p1 := h.p1
  have cf := h.f (j := fs.length) (i := i) (by rw [hf]; simp)
  have c2 := h.c2 hc
  have c0 := h.c0 hc
  have l1 := h.hd.loose 1
  have l2 := h.cs.loose (i * 3)
  have hi : i < s.cells.length := (List.getElem?_eq_some_iff.1 hc).1
  have n64 := h.n64
  have k32 := h.k32
  have hfl : s.free.length = fs.length + 1 := by rw [hf]; simp
  have hfn : fs.length < s.cells.length := by obtain ⟨rest, _, h2⟩ := h.fr; omega
  rw [hfl] at HF p1
  have HGET := Lib.hid (show (s.put i { c with taken := true, ws := List.replicate k 0 } fs).cells[i]? = some { c with taken := true, ws := List.replicate k 0 } by simp [Sl.put, hi])
  clear hA hB hC hfl h n4
  generalize s.cells.length = n at *
  have hcl := HCL.out
  go_enter Try.func14, Try.ntmps14
  go_wp2_with fail
  refine HF.out.mono ?_
  rintro e w' ⟨rfl, rfl⟩
  go_wp2_with fail
  refine (handle_any bP bC bF k i _ { c with taken := true, ws := List.replicate k 0 } _ HA.out HGET.out).mono ?_
  rintro e w' ⟨rfl, rfl⟩
  go_wp2
  go_ret2
  exact ⟨rfl, HA.out, HB.out⟩

theorem append_one {P : Program} {t e : TypeId} (ht : P.underlying t = some (.slice e)) (hi : (P.info? e).map (·.size) = some 1) (w : World) (g n cap h c ty : Nat) (l : List Value) (v : Value) (hg : Has w g e l) (hl : l.length = cap) (hn : n < cap) (hv : w.cell? ⟨h, 0, none⟩ = some v) (h1 : v.oneCell' = true) :
    (Builtin.append_ #[t, t] ty #[.slice (some ⟨g, 0, none⟩) n cap, .slice (some ⟨h, 0, none⟩) 1 c]).run P w = .ok (.slice (some ⟨g, 0, none⟩) (n + 1) cap) (w.setCell ⟨g, n, none⟩ v) := by
  cases hq : P.info? e with
  | none => rw [hq] at hi; cases hi
  | some i =>
    rw [hq] at hi
    have hi1 : i.size = 1 := by simpa using hi
    have hf := run_firstCells_some (P := P) w 1 1 ⟨h, 0, none⟩ 1 c [v] rfl (fun j u hj => by
      cases j with
      | zero => simp at hj; subst hj; simpa [Addr.add] using hv
      | succ j => simp at hj)
    have hst := run_storeCells_cells (P := P) g n [v] 0 w (fun j hj => by
      have : j = 0 := by simpa using hj
      subst this
      show (w.cell? ⟨g, n, none⟩).isSome = true
      rw [hg.cell, List.getElem?_eq_getElem (by omega)]; rfl) (fun j hj => hg.loose _) (by simpa using h1)
    have hle : n + 1 ≤ cap := hn
    simp [Builtin.append_, run_underlying ht, sizeOf, typeInfo, hq, hi1, Builtin.lenOf, hle, hf, Addr.add_lit, hst, World.setCells]

/-- One more within the capacity: as a step of the walk. -/
theorem wpList_append_one {P : Program} (w : World) {ops : Array Oper} {rest : List Oper} {o : Oper} {a : Act} {Q : Exit → Act → World → Prop}
    (hg : o.guard = none) (s x : Operand) (t : TypeId) (hop : o.op = Op.call { callee := Callee.builtin Builtin.append, args := #[s, x], argTypes := #[t, t] })
    (e : TypeId) (h1 : P.underlying t = some (.slice e)) (h2 : (P.info? e).map (·.size) = some 1)
    (g k cap : Nat) (l : List Value) (hs : a.eval s = .slice (some ⟨g, 0, none⟩) k cap) (hown : Has w g e l) (hl : l.length = cap) (hk : k < cap) (h c : Nat) (v : Value) (hx : a.eval x = .slice (some ⟨h, 0, none⟩) 1 c)
    (hv : w.cell? ⟨h, 0, none⟩ = some v) (h1c : v.oneCell' = true)
    (hK : wpList P ops Q rest (a.put o.dst (.slice (some ⟨g, 0, none⟩) (k + 1) cap)) (w.setCell ⟨g, k, none⟩ v)) : wpList P ops Q (o :: rest) a w := by
  refine wpList_plain hg fun K hK' => ?_
  have hrun := append_one h1 h2 w g k cap h c o.type l v hown hl hk hv h1c
  unfold Oper.wp
  simp [execOp, hop, resolve, invoke, builtin, hs, hx, hrun, Result.andThen]
  exact hK' _ _ hK

/-- The world that Give leaves. -/
theorem IsSlab.give {w : World} {bP bC bF k : Nat} {s : Sl} {i : Nat} {c : SC} (h : IsSlab w bP bC bF k s) (hc : s.cells[i]? = some c) (hfl : s.free.length < s.cells.length) (hg : c.gen < 1000000) :
    IsSlab (((((w.setCell ⟨bC, i * 3, none⟩ (.bool false)).setCell ⟨bC, i * 3 + 1, none⟩ (.int .i64 ((c.gen : Int) + 1))).setCell ⟨bF, s.free.length, none⟩ (.int .i64 (i : Int))).setCell ⟨bP, 1, none⟩ (.slice (some ⟨bF, 0, none⟩) (s.free.length + 1) s.cells.length)).alloc (.cells #[.int .i64 (i : Int)] 3)) bP bC bF k (s.put i { c with taken := false, gen := c.gen + 1 } (s.free ++ [i])) ∧
    Kept (foot bP bC bF s) w (((((w.setCell ⟨bC, i * 3, none⟩ (.bool false)).setCell ⟨bC, i * 3 + 1, none⟩ (.int .i64 ((c.gen : Int) + 1))).setCell ⟨bF, s.free.length, none⟩ (.int .i64 (i : Int))).setCell ⟨bP, 1, none⟩ (.slice (some ⟨bF, 0, none⟩) (s.free.length + 1) s.cells.length)).alloc (.cells #[.int .i64 (i : Int)] 3)) ∧
    ∃ l, l.length = s.cells.length ∧ Has (((w.setCell ⟨bC, i * 3, none⟩ (.bool false)).setCell ⟨bC, i * 3 + 1, none⟩ (.int .i64 ((c.gen : Int) + 1))).alloc (.cells #[.int .i64 (i : Int)] 3)) bF 3 l := by
  obtain ⟨n1, n2, n3, n4⟩ := h.ne
  have hm := List.mem_of_getElem? hc
  obtain ⟨m1, m2, m3⟩ := n4 c hm
  obtain ⟨hw1, hw2, hw3⟩ := h.ws c hm
  obtain ⟨rest, hr, hrl⟩ := h.fr
  have hi : i < s.cells.length := (List.getElem?_eq_some_iff.1 hc).1
  have hF : Has (((w.setCell ⟨bC, i * 3, none⟩ (.bool false)).setCell ⟨bC, i * 3 + 1, none⟩ (.int .i64 ((c.gen : Int) + 1))).alloc (.cells #[.int .i64 (i : Int)] 3)) bF 3 (intsV s.free ++ rest) :=
    ((hr.apart (p := ⟨bC, i * 3, none⟩) n3.symm _).apart (p := ⟨bC, i * 3 + 1, none⟩) n3.symm _).alloc _
  refine ⟨h.put (c' := { c with taken := false, gen := c.gen + 1 }) (fr := s.free ++ [i]) (l := rest.drop 1) (rest := []) hc rfl ?_ ?_ ?_ ?_ ?_ (by show c.gen + 1 ≤ 1000000; omega) ?_ hw2 hw3 ?_, ?_, ⟨_, ?_, hF⟩⟩
  · have h1 := (((h.hd.apart (p := ⟨bC, i * 3, none⟩) n1 (.bool false)).apart (p := ⟨bC, i * 3 + 1, none⟩) n1 (.int .i64 ((c.gen : Int) + 1))).apart (p := ⟨bF, s.free.length, none⟩) n2 (.int .i64 (i : Int))).store 1 (.slice (some ⟨bF, 0, none⟩) (s.free.length + 1) s.cells.length)
    exact (show Has _ _ _ _ by simpa using h1).alloc _
  · have h1 := (h.cs.store (i * 3 + 0) (.bool false)).store (i * 3 + 1) (.int .i64 ((c.gen : Int) + 1))
    rw [flat, flatMap_set (scV k) 3 (scV_len k) s.cells i 0 (by omega) c { c with taken := false } _ hc rfl,
      flatMap_set (scV k) 3 (scV_len k) _ i 1 (by omega) { c with taken := false } { c with taken := false, gen := c.gen + 1 } _ (by simp [hi]) (by simp [scV])] at h1
    rw [List.set_set] at h1
    exact ((h1.apart (p := ⟨bF, s.free.length, none⟩) n3 _).apart (p := ⟨bP, 1, none⟩) n1.symm _).alloc _
  · have hF0 : Has ((w.setCell ⟨bC, i * 3, none⟩ (.bool false)).setCell ⟨bC, i * 3 + 1, none⟩ (.int .i64 ((c.gen : Int) + 1))) bF 3 (intsV s.free ++ rest) := (hr.apart (p := ⟨bC, i * 3, none⟩) n3.symm _).apart (p := ⟨bC, i * 3 + 1, none⟩) n3.symm _
    have h1 := (hF0.store s.free.length (.int .i64 (i : Int))).apart (p := ⟨bP, 1, none⟩) n2.symm (.slice (some ⟨bF, 0, none⟩) (s.free.length + 1) s.cells.length)
    have e : (intsV s.free ++ rest).set s.free.length (.int .i64 (i : Int)) = intsV (s.free ++ [i]) ++ rest.drop 1 := by
      have : (intsV s.free).length = s.free.length := by simp [intsV]
      rw [List.set_append_right _ _ (by omega), this, Nat.sub_self]
      cases rest with
      | nil => simp at hrl; omega
      | cons r rest => simp [intsV]
    rw [e] at h1
    exact h1.alloc _
  · simp; omega
  · intro j hj
    rcases List.mem_append.1 hj with hj | hj
    · exact h.fi j hj
    · simp at hj; omega
  · exact ((((hw1.apart (p := ⟨bC, i * 3, none⟩) m2.symm _).apart (p := ⟨bC, i * 3 + 1, none⟩) m2.symm _).apart (p := ⟨bF, s.free.length, none⟩) m3.symm _).apart (p := ⟨bP, 1, none⟩) m1.symm _).alloc _
  · intro b hb e1 e2 e3 e4
    rw [Below.heap_alloc _ _ _ (by simpa [World.setCell] using hb), Below.heap_setCell _ _ _ _ e1, Below.heap_setCell _ _ _ _ e3, Below.heap_setCell _ _ _ _ e2, Below.heap_setCell _ _ _ _ e2]
  · exact (((((Kept.refl _ _).setCell (p := ⟨bC, i * 3, none⟩) (.inl (.inr (.inl rfl))) _).setCell (p := ⟨bC, i * 3 + 1, none⟩) (.inl (.inr (.inl rfl))) _).setCell (p := ⟨bF, s.free.length, none⟩) (.inl (.inr (.inr (.inl rfl)))) _).setCell (p := ⟨bP, 1, none⟩) (.inl (.inl rfl)) _).alloc _
  · simp [intsV]; omega

theorem Give_nil (h : Int) (w : World) : Calls Try.prog 16 #[.pointer none, .int .i64 h] w fun e w' => e = .returned (.int .i64 6) ∧ w = w' := by
  go_enter Try.func16, Try.ntmps16
  go_wp2_with (go_at_call 29; refine (find_nil _ _).mono ?_; rintro e w' ⟨rfl, rfl⟩)
  go_ret
  exact ⟨rfl, rfl⟩
theorem Give_no (bP bC bF k : Nat) (h : Int) (s : Sl) (w : World) (hs : IsSlab w bP bC bF k s) (e : s.find h = none) :
    Calls Try.prog 16 #[.pointer (some ⟨bP, 0, none⟩), .int .i64 h] w fun e w' => e = .returned (.int .i64 6) ∧ w = w' := by
  have H := Lib.hid (find_no bP bC bF k h s w hs e)
  clear hs e
  go_enter Try.func16, Try.ntmps16
  go_wp2_with fail
  refine H.out.mono ?_
  rintro e w' ⟨rfl, rfl⟩
  go_wp2
  go_ret
  exact ⟨rfl, rfl⟩
set_option maxRecDepth 100000 in
set_option maxHeartbeats 2000000 in
theorem Give_yes (bP bC bF k i : Nat) (h : Int) (s : Sl) (c : SC) (w : World) (hs : IsSlab w bP bC bF k s) (e : s.find h = some i) (hc : s.cells[i]? = some c) (hfl : s.free.length < s.cells.length) (hg : c.gen < 1000000) :
    Calls Try.prog 16 #[.pointer (some ⟨bP, 0, none⟩), .int .i64 h] w (SlabTells bP bC bF k s (s.put i { c with taken := false, gen := c.gen + 1 } (s.free ++ [i])) (.int .i64 0) w) := by
  have H := Lib.hid (find_yes bP bC bF k i h s w hs e)
  obtain ⟨n1, n2, n3, n4⟩ := hs.ne
  obtain ⟨hA, hB, l, hl, hC⟩ := hs.give hc hfl hg
  have HA := Lib.hid hA
  have HB := Lib.hid hB
  have HC := Lib.hid hC
  have HL := Lib.hid hl
  have p0 := hs.p0
  have p1 := hs.p1
  have c0 := hs.c0 hc
  have c1 := hs.c1 hc
  have l1 := hs.hd.loose 1
  have l2 := hs.cs.loose (i * 3)
  have l3 := hs.cs.loose (i * 3 + 1)
  have hi : i < s.cells.length := (List.getElem?_eq_some_iff.1 hc).1
  have n64 := hs.n64
  have hbP := hs.hd.lt
  have hbC := hs.cs.lt
  have hbF : bF < w.heap.size := hs.foot_lt (.inr (.inr (.inl rfl)))
  clear hA hB hC hs n4 e hc hl
  generalize s.cells.length = n at *
  generalize s.free.length = m at *
  generalize c.gen = g at *
  go_enter Try.func16, Try.ntmps16
  go_wp2_with fail
  refine H.out.mono ?_
  rintro e w' ⟨rfl, rfl⟩
  go_wp2_with (at_builtin; refine wpList_append_one _ rfl _ _ 32 rfl 3 Try.underlying32 (by kernel_rfl) bF m n l rfl HC.out HL.out hfl w.heap.size 1 (.int .i64 (i : Int)) rfl ?c1 rfl ?_)
  case c1 => exact (by simpa [World.setCell] using (Has.made ((w.setCell ⟨bC, i * 3, none⟩ (.bool false)).setCell ⟨bC, i * 3 + 1, none⟩ (.int .i64 ((g : Int) + 1))) 3 [.int .i64 (i : Int)]).cell 0)
  go_ret
  exact ⟨rfl, HA.out, HB.out⟩
end Go.Proofs.Ytbmapjbjpgoibaa
