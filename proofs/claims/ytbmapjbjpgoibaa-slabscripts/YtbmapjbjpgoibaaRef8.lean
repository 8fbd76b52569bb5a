/- The document's own Give. -/
import Derived.Test.YtbmapjbjpgoibaaRef7
namespace Go.Proofs.Ytbmapjbjpgoibaa
open Go.ChangeShapes Go.WideShapes Go.ChangeAt Go.RowKit
set_option linter.unusedVariables false

/-- 'append([]int{..}, x...)': as a step of the walk. -/
theorem wpList_append_ints (w : World) (H : Nat) (hH : w.heap.size = H) (xs0 : List Nat) {ops : Array Oper} {rest : List Oper} {o : Oper} {a : Act} {Q : Exit → Act → World → Prop} (hgd : o.guard = none) (s x : Operand)
    (ho : o.op = .call { callee := .builtin .append, args := #[s, x], argTypes := #[32, 32] }) (A : Option Addr) (m c : Nat) (xs : List Nat) (n0 : Nat) (hn0 : xs0.length = n0)
    (hs : a.eval s = .slice (some ⟨H, 0, none⟩) n0 n0) (hx : a.eval x = .slice A m c) (hm : xs.length = m) (hw : NatsAt w A xs) (hk : n0 + m ≤ 1000)
    (h : ∀ g cap w' r, H ≤ g → cap ≤ maxLen → Has w' g 3 (intsV (xs0 ++ xs) ++ r) → n0 + m + r.length = cap → Below H w w' → wpList Try.prog ops Q rest (a.put o.dst (.slice (some ⟨g, 0, none⟩) (n0 + m) cap)) w') :
    wpList Try.prog ops Q (o :: rest) a (w.alloc (.cells (intsV xs0).toArray 3)) := by
  subst hH
  refine wpList_plain hgd fun K hK => ?_
  have h1 := step_append_ints (ops := ops) (E := True) (K := K) (Q := Q) w xs0 hgd s x ho A m c xs n0 hn0 hs hx hm hw hk (fun g cap w' r q1 q2 q3 q4 q5 => hK _ _ (h g cap w' r q1 q2 q3 q4 q5))
  rw [if_pos (by simp [Region.wanted, hgd])] at h1
  exact h1
theorem NatsAt.of_ref {w : World} {r : RB} {k : Nat} {s : Sl} (h : IsRef w r k s) : NatsAt w (some ⟨r.bQ, 0, none⟩) s.free.reverse := fun _ => by
  obtain ⟨r4, q1, q2⟩ := h.q
  exact ⟨r.bQ, 0, rfl, q1.lt, fun j x hx => by rw [Nat.zero_add]; exact h.cq hx⟩
theorem ref_gave {r : RB} {k i : Nat} {s : Sl} {c : SC} {w w1 : World} {g cap : Nat} {rest : List Value} (hs : IsRef w r k s) (hc : s.cells[i]? = some c) (hg1 : c.gen < 1000000) (hfl : s.free.length < s.cells.length)
    (hb : Below w.heap.size ((w.setCell ⟨r.bT, i, none⟩ (.bool false)).setCell ⟨r.bG, i, none⟩ (.int .i64 ((c.gen : Int) + 1))) w1) (hg : w.heap.size ≤ g) (hcm : cap ≤ maxLen) (hh : Has w1 g 3 (intsV ([i] ++ s.free.reverse) ++ rest)) (hl : 1 + s.free.length + rest.length = cap) :
    RefTells r k (s.put i { c with taken := false, gen := c.gen + 1 } (s.free ++ [i])) (.int .i64 0) w (.returned (.int .i64 0)) (w1.setCell ⟨r.bR, 3, none⟩ (.slice (some ⟨g, 0, none⟩) (1 + s.free.length) cap)) := by
  have hi := (List.getElem?_eq_some_iff.1 hc).1
  have h1 := hs.setT hc false
  have hc1 : (s.put i { c with taken := false } s.free).cells[i]? = some { c with taken := false } := by rw [getElem?_put hi, if_pos rfl]
  have h2 := h1.setG hc1 (c.gen + 1) (by omega)
  rw [show (((c.gen + 1 : Nat)) : Int) = (c.gen : Int) + 1 by omega] at h2
  have h3 := h2.below (w' := w1) (by
    rw [show (((w.setCell ⟨r.bT, i, none⟩ (.bool false)).setCell ⟨r.bG, i, none⟩ (.int .i64 ((c.gen : Int) + 1))).heap.size) = w.heap.size by simp [World.setCell]]
    exact hb)
  have e1 : (s.put i { c with taken := false } s.free).put i { c with taken := false, gen := c.gen + 1 } s.free = s.put i { c with taken := false, gen := c.gen + 1 } s.free := by simp [Sl.put]
  have h4 := h3.setQ (s.free ++ [i]) g cap (rest := rest) (fun hm => by have := hs.lt g hm; omega) (by simpa using hh) (by simp; omega) hcm (by have := hs.n64; simp; omega) (fun j hj => by
    rw [put_len, put_len]
    rcases List.mem_append.1 hj with hj | hj
    · exact hs.fi j hj
    · rw [List.mem_singleton.1 hj]; exact hi)
  refine ⟨{ r with bQ := g, cQ := cap }, rfl, rfl, ?_, ?_, fun b hbm => ?_⟩
  · have e2 : (⟨((s.put i { c with taken := false } s.free).put i { c with taken := false, gen := c.gen + 1 } s.free).cells, s.free ++ [i]⟩ : Sl) = s.put i { c with taken := false, gen := c.gen + 1 } (s.free ++ [i]) := by simp [Sl.put]
    rw [show (s.free ++ [i]).length = 1 + s.free.length by simp; omega] at h4
    rw [← e2]
    exact h4
  · have hk0 : Kept (fun b => b ∈ r.all) w ((w.setCell ⟨r.bT, i, none⟩ (.bool false)).setCell ⟨r.bG, i, none⟩ (.int .i64 ((c.gen : Int) + 1))) :=
      ((Kept.refl _ w).setCell (p := ⟨r.bT, i, none⟩) (.inl (by simp [RB.all])) _).setCell (p := ⟨r.bG, i, none⟩) (.inl (by simp [RB.all])) _
    have hk1 : Kept (fun b => b ∈ r.all) w w1 := hk0.trans (G := fun _ => False) ⟨hb.os, hb.tape, hb.output, hb.size, fun x hx _ => hb.block x (by simpa [World.setCell] using hx)⟩ (fun _ h => h.elim)
    exact hk1.setCell (p := ⟨r.bR, 3, none⟩) (.inl (by simp [RB.all])) _
  · unfold RB.all at *
    simp only [List.mem_cons] at hbm ⊢
    rcases hbm with x | x | x | x | x | x
    · exact .inl (.inl x)
    · exact .inl (.inr (.inl x))
    · exact .inl (.inr (.inr (.inl x)))
    · exact .inl (.inr (.inr (.inr (.inl x))))
    · exact .inr (by rw [x]; exact hg)
    · exact .inl (.inr (.inr (.inr (.inr (.inr x)))))
set_option maxRecDepth 100000 in
theorem ref_Give (r : RB) (k i : Nat) (h : Int) (s : Sl) (c : SC) (w : World) (hs : IsRef w r k s) (e : s.find h = some i) (hc : s.cells[i]? = some c) (hg1 : c.gen < 1000000) (hfl : s.free.length < s.cells.length) :
    Calls Try.prog 17 #[.pointer (some ⟨r.bR, 0, none⟩), .int .i64 h] w (RefTells r k (s.put i { c with taken := false, gen := c.gen + 1 } (s.free ++ [i])) (.int .i64 0) w) := by
  have HG := Lib.hid (ref_good r k i h s w hs e)
  have p0 := hs.p0
  have p1 := hs.p1
  have p3 := hs.p3
  have hi : i < s.cells.length := (List.getElem?_eq_some_iff.1 hc).1
  have n64 := hs.n64
  obtain ⟨rg, hG1, hG2⟩ := hs.g
  obtain ⟨rt, hT1, hT2⟩ := hs.t
  have cG : s.cells.length ≤ r.cG := by omega
  have cT : s.cells.length ≤ r.cT := by omega
  have c0 := hs.ct hc
  have c1 := hs.cg hc
  have l0 := hT1.loose i
  have l1 := hG1.loose i
  have l3 := hs.hd.loose 3
  obtain ⟨n1, n2, n3, n4, n5, n6, n7, n8, n9, n10, nv⟩ := RB.apart hs.nd
  have hbR := hs.hd.lt
  have hbG := hG1.lt
  have hbT := hT1.lt
  have h1 := hs.setT hc false
  have hc1 : (s.put i { c with taken := false } s.free).cells[i]? = some { c with taken := false } := by rw [getElem?_put hi, if_pos rfl]
  have h2 := h1.setG hc1 (c.gen + 1) (by omega)
  rw [show (((c.gen + 1 : Nat)) : Int) = (c.gen : Int) + 1 by omega] at h2
  have HNA := Lib.hid (NatsAt.of_ref h2)
  have HSZ := Lib.hid (show ((w.setCell ⟨r.bT, i, none⟩ (.bool false)).setCell ⟨r.bG, i, none⟩ (.int .i64 ((c.gen : Int) + 1))).heap.size = w.heap.size by simp [World.setCell])
  have R := Lib.hid (fun (w1 : World) (g cap : Nat) (rest : List Value) hb hg hcm hh hl => ref_gave (r := r) (k := k) (i := i) (s := s) (c := c) (w := w) (w1 := w1) (g := g) (cap := cap) (rest := rest) hs hc hg1 hfl hb hg hcm hh hl)
  have L3 := Lib.hid (h2.hd.loose 3)
  have P3 := Lib.hid h2.p3
  have hfl2 : s.free.length ≤ 64 := by omega
  have HFL := Lib.hid (show s.free.reverse.length = s.free.length by simp)
  clear h1 hc1 h2
  clear nv hG1 hG2 hT1 hT2 e hs hc n3 n4 n6 n7 n8 n9 n10 hfl
  go_enter Try.func17, Try.ntmps17
  generalize s.cells.length = n at *
  go_wp2_with fail
  refine HG.out.mono ?_
  rintro e w' ⟨rfl, rfl⟩
  go_wp2_with (at_builtin; refine wpList_append_ints ((w.setCell ⟨r.bT, i, none⟩ (.bool false)).setCell ⟨r.bG, i, none⟩ (.int .i64 ((c.gen : Int) + 1))) w.heap.size HSZ.out [i] rfl _ _ rfl _ s.free.length _ s.free.reverse 1 rfl rfl rfl HFL.out HNA.out (by omega) ?_)
  intro g cap w1 rest hg hcm hh hl hb
  have q3 := (hb.cell (p := ⟨r.bR, 3, none⟩) hbR).trans P3.out
  have q4 := (hb.frozen (p := ⟨r.bR, 3, none⟩) hbR).trans L3.out
  have RR := Lib.hid (R.out w1 g cap rest hb hg hcm hh hl)
  clear hb hh hl hg hcm
  go_wp2
  go_ret
  exact RR.out
end Go.Proofs.Ytbmapjbjpgoibaa
