/- The document's own slab: one place of it written. -/
import Derived.Test.YtbmapjbjpgoibaaRef2
namespace Go.Proofs.Ytbmapjbjpgoibaa
open Go.ChangeShapes Go.WideShapes Go.ChangeAt Go.RowKit
set_option linter.unusedVariables false

theorem map_set_same {α β : Type} (f : α → β) {l : List α} {i : Nat} {c c' : α} (hc : l[i]? = some c) (hf : f c' = f c) : (l.set i c').map f = l.map f := by
  apply List.ext_getElem?
  intro j
  rw [List.getElem?_map, List.getElem?_map, List.getElem?_set]
  by_cases e : i = j
  · subst e
    have hi := (List.getElem?_eq_some_iff.1 hc).1
    rw [if_pos rfl, if_pos hi, hc]
    simp [hf]
  · rw [if_neg e]
theorem nodup_set {l : List Nat} {i g : Nat} (h : l.Nodup) (hg : g ∉ l) : (l.set i g).Nodup := by
  induction l generalizing i with
  | nil => simp
  | cons a l ih =>
    obtain ⟨h1, h2⟩ := List.nodup_cons.1 h
    simp only [List.mem_cons, not_or] at hg
    cases i with
    | zero => exact List.nodup_cons.2 ⟨hg.2, h2⟩
    | succ i =>
      refine List.nodup_cons.2 ⟨fun hm => ?_, ih h2 hg.2⟩
      rcases List.mem_or_eq_of_mem_set hm with hm | hm
      · exact h1 hm
      · exact hg.1 hm.symm
theorem RB.apart {r : RB} (h : r.all.Nodup) : r.bR ≠ r.bG ∧ r.bR ≠ r.bT ∧ r.bR ≠ r.bW ∧ r.bR ≠ r.bQ ∧ r.bG ≠ r.bT ∧ r.bG ≠ r.bW ∧ r.bG ≠ r.bQ ∧ r.bT ≠ r.bW ∧ r.bT ≠ r.bQ ∧ r.bW ≠ r.bQ ∧ ∀ p ∈ r.vs, p.1 ≠ r.bR ∧ p.1 ≠ r.bG ∧ p.1 ≠ r.bT ∧ p.1 ≠ r.bW ∧ p.1 ≠ r.bQ := by
  unfold RB.all at h
  simp only [List.nodup_cons, List.mem_cons, not_or] at h
  obtain ⟨⟨a1, a2, a3, a4, a5⟩, ⟨b1, b2, b3, b4⟩, ⟨c1, c2, c3⟩, ⟨d1, d2⟩, e1, _⟩ := h
  refine ⟨a1, a2, a3, a4, b1, b2, b3, c1, c2, d1, fun p hp => ?_⟩
  have hm : p.1 ∈ r.vs.map Prod.fst := List.mem_map_of_mem hp
  exact ⟨fun x => a5 (x ▸ hm), fun x => b4 (x ▸ hm), fun x => c3 (x ▸ hm), fun x => d2 (x ▸ hm), fun x => e1 (x ▸ hm)⟩
theorem kept_cell (w : World) (b i : Nat) (u : Value) : Kept (fun x => x = b) w (w.setCell ⟨b, i, none⟩ u) :=
  Kept.setCell (F := fun x => x = b) (Kept.refl (fun x => x = b) w) (p := ⟨b, i, none⟩) (.inl rfl) u
section
variable {w : World} {r : RB} {k : Nat} {s : Sl}
theorem IsRef.setT (h : IsRef w r k s) {i : Nat} {c : SC} (hc : s.cells[i]? = some c) (b : Bool) : IsRef (w.setCell ⟨r.bT, i, none⟩ (.bool b)) r k (s.put i { c with taken := b } s.free) := by
  have hi := (List.getElem?_eq_some_iff.1 hc).1
  obtain ⟨n1, n2, n3, n4, n5, n6, n7, n8, n9, n10, nv⟩ := RB.apart h.nd
  have hk := kept_cell w r.bT i (.bool b)
  obtain ⟨r1, g1, g2⟩ := h.g
  obtain ⟨r2, t1, t2⟩ := h.t
  obtain ⟨r3, v1, v2⟩ := h.v
  obtain ⟨r4, q1, q2⟩ := h.q
  have e1 : gensV (s.put i { c with taken := b } s.free).cells = gensV s.cells := map_set_same _ hc rfl
  have e2 : takV (s.put i { c with taken := b } s.free).cells = (takV s.cells).set i (.bool b) := by show List.map _ (List.set _ _ _) = _; rw [List.map_set]; rfl
  refine ⟨?_, ⟨r1, by rw [e1]; exact g1.kept hk n5, by rw [put_len]; exact g2⟩, ⟨r2, ?_, by rw [put_len]; exact t2⟩, ⟨r3, v1.kept hk (fun x => n8 x.symm), by rw [put_len]; exact v2⟩, ⟨r4, q1.kept hk (fun x => n9 x.symm), q2⟩, by rw [put_len]; exact h.vl, fun j p d hp hd => ?_, h.nd, h.cap, by rw [put_len]; exact h.n1, by rw [put_len]; exact h.n64, h.f64, h.k32, fun j hj => by rw [put_len]; exact h.fi j hj, fun d hd => ?_⟩
  · rw [put_len]; exact h.hd.kept hk n2
  · have := t1.store i (.bool b)
    rw [List.set_append_left _ _ (by simpa [takV] using hi)] at this
    rw [e2]; exact this
  · rw [getElem?_put hi] at hd
    have hne := (nv p (List.mem_of_getElem? hp)).2.2.1
    by_cases e : i = j
    · subst e
      rw [if_pos rfl] at hd
      injection hd with hd
      subst hd
      exact ⟨(h.ws i p c hp hc).1, (h.ws i p c hp hc).2.kept hk hne⟩
    · rw [if_neg e] at hd
      exact ⟨(h.ws j p d hp hd).1, (h.ws j p d hp hd).2.kept hk hne⟩
  · rcases put_mem hd with hd | rfl
    · exact h.gn d hd
    · exact h.gn c (List.mem_of_getElem? hc)
theorem IsRef.setG (h : IsRef w r k s) {i : Nat} {c : SC} (hc : s.cells[i]? = some c) (m : Nat) (hm : m ≤ 1000000) : IsRef (w.setCell ⟨r.bG, i, none⟩ (.int .i64 (m : Int))) r k (s.put i { c with gen := m } s.free) := by
  have hi := (List.getElem?_eq_some_iff.1 hc).1
  obtain ⟨n1, n2, n3, n4, n5, n6, n7, n8, n9, n10, nv⟩ := RB.apart h.nd
  have hk := kept_cell w r.bG i (.int .i64 (m : Int))
  obtain ⟨r1, g1, g2⟩ := h.g
  obtain ⟨r2, t1, t2⟩ := h.t
  obtain ⟨r3, v1, v2⟩ := h.v
  obtain ⟨r4, q1, q2⟩ := h.q
  have e1 : takV (s.put i { c with gen := m } s.free).cells = takV s.cells := map_set_same _ hc rfl
  have e2 : gensV (s.put i { c with gen := m } s.free).cells = (gensV s.cells).set i (.int .i64 (m : Int)) := by show List.map _ (List.set _ _ _) = _; rw [List.map_set]; rfl
  refine ⟨?_, ⟨r1, ?_, by rw [put_len]; exact g2⟩, ⟨r2, by rw [e1]; exact t1.kept hk (fun x => n5 x.symm), by rw [put_len]; exact t2⟩, ⟨r3, v1.kept hk (fun x => n6 x.symm), by rw [put_len]; exact v2⟩, ⟨r4, q1.kept hk (fun x => n7 x.symm), q2⟩, by rw [put_len]; exact h.vl, fun j p d hp hd => ?_, h.nd, h.cap, by rw [put_len]; exact h.n1, by rw [put_len]; exact h.n64, h.f64, h.k32, fun j hj => by rw [put_len]; exact h.fi j hj, fun d hd => ?_⟩
  · rw [put_len]; exact h.hd.kept hk n1
  · have := g1.store i (.int .i64 (m : Int))
    rw [List.set_append_left _ _ (by simpa [gensV] using hi)] at this
    rw [e2]; exact this
  · rw [getElem?_put hi] at hd
    have hne := (nv p (List.mem_of_getElem? hp)).2.1
    by_cases e : i = j
    · subst e
      rw [if_pos rfl] at hd
      injection hd with hd
      subst hd
      exact ⟨(h.ws i p c hp hc).1, (h.ws i p c hp hc).2.kept hk hne⟩
    · rw [if_neg e] at hd
      exact ⟨(h.ws j p d hp hd).1, (h.ws j p d hp hd).2.kept hk hne⟩
  · rcases put_mem hd with hd | rfl
    · exact h.gn d hd
    · exact hm
theorem IsRef.setQ (h : IsRef w r k s) (fr : List Nat) (g cap : Nat) {rest : List Value} (hg : g ∉ r.all) (hh : Has w g 3 (intsV fr.reverse ++ rest)) (hl : fr.length + rest.length = cap) (hm : cap ≤ maxLen) (h64 : fr.length ≤ 64) (hfi : ∀ i ∈ fr, i < s.cells.length) :
    IsRef (w.setCell ⟨r.bR, 3, none⟩ (.slice (some ⟨g, 0, none⟩) fr.length cap)) { r with bQ := g, cQ := cap } k ⟨s.cells, fr⟩ := by
  obtain ⟨n1, n2, n3, n4, n5, n6, n7, n8, n9, n10, nv⟩ := RB.apart h.nd
  have hk := kept_cell w r.bR 3 (.slice (some ⟨g, 0, none⟩) fr.length cap)
  obtain ⟨r1, g1, g2⟩ := h.g
  obtain ⟨r2, t1, t2⟩ := h.t
  obtain ⟨r3, v1, v2⟩ := h.v
  have hnd := h.nd
  unfold RB.all at hg hnd
  simp only [List.nodup_cons, List.mem_cons, not_or] at hg hnd
  refine ⟨h.hd.store 3 _, ⟨r1, g1.kept hk (fun x => n1 x.symm), g2⟩, ⟨r2, t1.kept hk (fun x => n2 x.symm), t2⟩, ⟨r3, v1.kept hk (fun x => n3 x.symm), v2⟩, ⟨rest, hh.kept hk hg.1, hl⟩, h.vl, fun j p d hp hd => ⟨(h.ws j p d hp hd).1, (h.ws j p d hp hd).2.kept hk (nv p (List.mem_of_getElem? hp)).1⟩, ?_, hm, h.n1, h.n64, h64, h.k32, hfi, h.gn⟩
  unfold RB.all
  simp only [List.nodup_cons, List.mem_cons, not_or]
  obtain ⟨⟨a1, a2, a3, a4, a5⟩, ⟨b1, b2, b3, b4⟩, ⟨c1, c2, c3⟩, ⟨d1, d2⟩, e1, e2⟩ := hnd
  obtain ⟨x1, x2, x3, x4, x5, x6⟩ := hg
  exact ⟨⟨a1, a2, a3, fun x => x1 x.symm, a5⟩, ⟨b1, b2, fun x => x2 x.symm, b4⟩, ⟨c1, fun x => x3 x.symm, c3⟩, ⟨fun x => x4 x.symm, d2⟩, x6, e2⟩
theorem IsRef.setW (h : IsRef w r k s) {i : Nat} {c : SC} (hc : s.cells[i]? = some c) (ns : List Nat) (g cap : Nat) (hg : g ∉ r.all) (hw : OwnW w g k ns) (hcap : k ≤ cap) :
    IsRef (w.setCell ⟨r.bW, i, none⟩ (.slice (some ⟨g, 0, none⟩) k cap)) { r with vs := r.vs.set i (g, cap) } k (s.put i { c with ws := ns } s.free) := by
  have hi := (List.getElem?_eq_some_iff.1 hc).1
  have hi2 : i < r.vs.length := by rw [h.vl]; exact hi
  obtain ⟨n1, n2, n3, n4, n5, n6, n7, n8, n9, n10, nv⟩ := RB.apart h.nd
  have hk := kept_cell w r.bW i (.slice (some ⟨g, 0, none⟩) k cap)
  obtain ⟨r1, g1, g2⟩ := h.g
  obtain ⟨r2, t1, t2⟩ := h.t
  obtain ⟨r3, v1, v2⟩ := h.v
  obtain ⟨r4, q1, q2⟩ := h.q
  have e1 : gensV (s.put i { c with ws := ns } s.free).cells = gensV s.cells := map_set_same _ hc rfl
  have e2 : takV (s.put i { c with ws := ns } s.free).cells = takV s.cells := map_set_same _ hc rfl
  have e3 : wsV k (r.vs.set i (g, cap)) = (wsV k r.vs).set i (.slice (some ⟨g, 0, none⟩) k cap) := by show List.map _ (List.set _ _ _) = _; rw [List.map_set]; rfl
  have hnd := h.nd
  unfold RB.all at hg hnd
  simp only [List.nodup_cons, List.mem_cons, not_or] at hg hnd
  obtain ⟨x1, x2, x3, x4, x5, x6⟩ := hg
  refine ⟨?_, ⟨r1, by rw [e1]; exact g1.kept hk n6, by rw [put_len]; exact g2⟩, ⟨r2, by rw [e2]; exact t1.kept hk n8, by rw [put_len]; exact t2⟩, ⟨r3, ?_, by rw [put_len]; exact v2⟩, ⟨r4, q1.kept hk (fun x => n10 x.symm), q2⟩, by rw [put_len]; show (r.vs.set i (g, cap)).length = _; rw [List.length_set]; exact h.vl, fun j p d hp hd => ?_, ?_, h.cap, by rw [put_len]; exact h.n1, by rw [put_len]; exact h.n64, h.f64, h.k32, fun j hj => by rw [put_len]; exact h.fi j hj, fun d hd => ?_⟩
  · rw [put_len]; exact h.hd.kept hk n3
  · have := v1.store i (.slice (some ⟨g, 0, none⟩) k cap)
    rw [List.set_append_left _ _ (by simpa [wsV] using hi2)] at this
    show Has _ r.bW _ (wsV k (r.vs.set i (g, cap)) ++ r3)
    rw [e3]; exact this
  · rw [getElem?_put hi] at hd
    have hp2 : (r.vs.set i (g, cap))[j]? = some p := hp
    rw [List.getElem?_set] at hp2
    by_cases e : i = j
    · subst e
      rw [if_pos rfl] at hd
      rw [if_pos rfl, if_pos hi2] at hp2
      injection hd with hd
      injection hp2 with hp2
      subst hd
      subst hp2
      exact ⟨hcap, hw.kept hk x4⟩
    · rw [if_neg e] at hd hp2
      exact ⟨(h.ws j p d hp2 hd).1, (h.ws j p d hp2 hd).2.kept hk (nv p (List.mem_of_getElem? hp2)).2.2.2.1⟩
  · unfold RB.all
    simp only [List.nodup_cons, List.mem_cons, not_or]
    obtain ⟨⟨a1, a2, a3, a4, a5⟩, ⟨b1, b2, b3, b4⟩, ⟨c1, c2, c3⟩, ⟨d1, d2⟩, y1, y2⟩ := hnd
    have hm : ∀ b, b ∈ (r.vs.set i (g, cap)).map Prod.fst → b ∈ r.vs.map Prod.fst ∨ b = g := fun b hb => by
      rw [List.map_set] at hb
      exact List.mem_or_eq_of_mem_set hb
    have no : ∀ b, b ∉ r.vs.map Prod.fst → ¬ g = b → b ∉ (r.vs.set i (g, cap)).map Prod.fst := fun b h1 h2 hb => (hm b hb).elim h1 (fun e => h2 e.symm)
    refine ⟨⟨a1, a2, a3, a4, no _ a5 x1⟩, ⟨b1, b2, b3, no _ b4 x2⟩, ⟨c1, c2, no _ c3 x3⟩, ⟨d1, no _ d2 x4⟩, no _ y1 x5, ?_⟩
    rw [List.map_set]
    exact nodup_set y2 x6
  · rcases put_mem hd with hd | rfl
    · exact h.gn d hd
    · exact h.gn c (List.mem_of_getElem? hc)
end
end Go.Proofs.Ytbmapjbjpgoibaa
