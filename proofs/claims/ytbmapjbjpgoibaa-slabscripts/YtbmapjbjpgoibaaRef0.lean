/- The document's own slab, as it lies in memory; its calls that change nothing. -/
import Derived.Test.YtbmapjbjpgoibaaSlab14
namespace Go.Proofs.Ytbmapjbjpgoibaa
open Go.ChangeShapes Go.WideShapes Go.ChangeAt Go.RowKit
set_option linter.unusedVariables false

/-- The blocks of the document's slab, and how much they hold. -/
structure RB where
  bR : Nat
  bG : Nat
  bT : Nat
  bW : Nat
  bQ : Nat
  cG : Nat
  cT : Nat
  cW : Nat
  cQ : Nat
  vs : List (Nat × Nat)
def RB.all (r : RB) : List Nat := r.bR :: r.bG :: r.bT :: r.bW :: r.bQ :: r.vs.map Prod.fst
def gensV (l : List SC) : List Value := l.map fun c => .int .i64 (c.gen : Int)
def takV (l : List SC) : List Value := l.map fun c => .bool c.taken
def wsV (k : Nat) (l : List (Nat × Nat)) : List Value := l.map fun p => .slice (some ⟨p.1, 0, none⟩) k p.2
structure IsRef (w : World) (r : RB) (k : Nat) (s : Sl) : Prop where
  hd : Has w r.bR 61 [.slice (some ⟨r.bG, 0, none⟩) s.cells.length r.cG, .slice (some ⟨r.bT, 0, none⟩) s.cells.length r.cT, .slice (some ⟨r.bW, 0, none⟩) s.cells.length r.cW, .slice (some ⟨r.bQ, 0, none⟩) s.free.length r.cQ]
  g : ∃ rest, Has w r.bG 3 (gensV s.cells ++ rest) ∧ s.cells.length + rest.length = r.cG
  t : ∃ rest, Has w r.bT 4 (takV s.cells ++ rest) ∧ s.cells.length + rest.length = r.cT
  v : ∃ rest, Has w r.bW 33 (wsV k r.vs ++ rest) ∧ s.cells.length + rest.length = r.cW
  q : ∃ rest, Has w r.bQ 3 (intsV s.free.reverse ++ rest) ∧ s.free.length + rest.length = r.cQ
  vl : r.vs.length = s.cells.length
  ws : ∀ (i : Nat) p c, r.vs[i]? = some p → s.cells[i]? = some c → k ≤ p.2 ∧ OwnW w p.1 k c.ws
  nd : r.all.Nodup
  cap : r.cQ ≤ maxLen
  n1 : 1 ≤ s.cells.length
  n64 : s.cells.length ≤ 64
  f64 : s.free.length ≤ 64
  k32 : k ≤ 32
  fi : ∀ i ∈ s.free, i < s.cells.length
  gn : ∀ c ∈ s.cells, c.gen ≤ 1000000
section
variable {w w' : World} {r : RB} {k : Nat} {s : Sl}
theorem IsRef.p0 (h : IsRef w r k s) : w.cell? ⟨r.bR, 0, none⟩ = some (.slice (some ⟨r.bG, 0, none⟩) s.cells.length r.cG) := h.hd.cell 0
theorem IsRef.p1 (h : IsRef w r k s) : w.cell? ⟨r.bR, 1, none⟩ = some (.slice (some ⟨r.bT, 0, none⟩) s.cells.length r.cT) := h.hd.cell 1
theorem IsRef.p2 (h : IsRef w r k s) : w.cell? ⟨r.bR, 2, none⟩ = some (.slice (some ⟨r.bW, 0, none⟩) s.cells.length r.cW) := h.hd.cell 2
theorem IsRef.p3 (h : IsRef w r k s) : w.cell? ⟨r.bR, 3, none⟩ = some (.slice (some ⟨r.bQ, 0, none⟩) s.free.length r.cQ) := h.hd.cell 3
theorem IsRef.cg (h : IsRef w r k s) {i : Nat} {c : SC} (hc : s.cells[i]? = some c) : w.cell? ⟨r.bG, i, none⟩ = some (.int .i64 (c.gen : Int)) := by
  obtain ⟨rest, h1, _⟩ := h.g
  have hl := (List.getElem?_eq_some_iff.1 hc).1
  rw [h1.cell i, List.getElem?_append_left (by simpa [gensV] using hl), gensV, List.getElem?_map, hc]
  rfl
theorem IsRef.ct (h : IsRef w r k s) {i : Nat} {c : SC} (hc : s.cells[i]? = some c) : w.cell? ⟨r.bT, i, none⟩ = some (.bool c.taken) := by
  obtain ⟨rest, h1, _⟩ := h.t
  have hl := (List.getElem?_eq_some_iff.1 hc).1
  rw [h1.cell i, List.getElem?_append_left (by simpa [takV] using hl), takV, List.getElem?_map, hc]
  rfl
theorem IsRef.cv (h : IsRef w r k s) {i : Nat} {p : Nat × Nat} (hp : r.vs[i]? = some p) : w.cell? ⟨r.bW, i, none⟩ = some (.slice (some ⟨p.1, 0, none⟩) k p.2) := by
  obtain ⟨rest, h1, _⟩ := h.v
  have hl := (List.getElem?_eq_some_iff.1 hp).1
  rw [h1.cell i, List.getElem?_append_left (by simpa [wsV] using hl), wsV, List.getElem?_map, hp]
  rfl
theorem IsRef.cq (h : IsRef w r k s) {i x : Nat} (hp : s.free.reverse[i]? = some x) : w.cell? ⟨r.bQ, i, none⟩ = some (.int .i64 (x : Int)) := by
  obtain ⟨rest, h1, _⟩ := h.q
  have hl := (List.getElem?_eq_some_iff.1 hp).1
  rw [h1.cell i, List.getElem?_append_left (by simpa [intsV] using hl), intsV, List.getElem?_map, hp]
  rfl
theorem IsRef.kept {F : Nat → Prop} (h : IsRef w r k s) (hk : Kept F w w') (hF : ∀ b ∈ r.all, ¬ F b) : IsRef w' r k s := by
  obtain ⟨r1, g1, g2⟩ := h.g
  obtain ⟨r2, t1, t2⟩ := h.t
  obtain ⟨r3, v1, v2⟩ := h.v
  obtain ⟨r4, q1, q2⟩ := h.q
  refine ⟨h.hd.kept hk (hF _ (by simp [RB.all])), ⟨r1, g1.kept hk (hF _ (by simp [RB.all])), g2⟩, ⟨r2, t1.kept hk (hF _ (by simp [RB.all])), t2⟩, ⟨r3, v1.kept hk (hF _ (by simp [RB.all])), v2⟩, ⟨r4, q1.kept hk (hF _ (by simp [RB.all])), q2⟩, h.vl, fun i p c hp hc => ?_, h.nd, h.cap, h.n1, h.n64, h.f64, h.k32, h.fi, h.gn⟩
  obtain ⟨a1, a3⟩ := h.ws i p c hp hc
  have hm : p.1 ∈ r.all := by
    unfold RB.all
    have : p.1 ∈ r.vs.map Prod.fst := List.mem_map_of_mem (List.mem_of_getElem? hp)
    simp only [List.mem_cons]
    exact .inr (.inr (.inr (.inr (.inr this))))
  exact ⟨a1, a3.kept hk (hF _ hm)⟩
theorem IsRef.below (h : IsRef w r k s) (hb : Below w.heap.size w w') : IsRef w' r k s :=
  h.kept (F := fun _ => False) (Kept.of_below hb) (fun _ _ => id)
end

theorem ref_Free (r : RB) (k : Nat) (s : Sl) (w : World) (h : IsRef w r k s) :
    Calls Try.prog 24 #[.pointer (some ⟨r.bR, 0, none⟩)] w fun e w' => e = .returned (.int .i64 s.free.length) ∧ w = w' := by
  have p3 := h.p3
  clear h
  generalize s.free.length = n at *
  go_enter Try.func24, Try.ntmps24
  go_wp2
  go_ret
  exact ⟨rfl, rfl⟩
theorem ref_good (r : RB) (k i : Nat) (h : Int) (s : Sl) (w : World) (hs : IsRef w r k s) (e : s.find h = some i) :
    Calls Try.prog 30 #[.pointer (some ⟨r.bR, 0, none⟩), .int .i64 h] w fun e w' => e = .returned (.int .i64 i) ∧ w = w' := by
  obtain ⟨m, c, rfl, hm, h64, hc, ht, hg⟩ := Sl.find_some e
  have p0 := hs.p0
  have p1 := hs.p1
  have c0 := hs.ct hc
  have c1 := hs.cg hc
  rw [ht] at c0
  have hi : i < s.cells.length := (List.getElem?_eq_some_iff.1 hc).1
  have n64 := hs.n64
  obtain ⟨rg, _, hg2⟩ := hs.g
  obtain ⟨rt, _, ht2⟩ := hs.t
  have cG : s.cells.length ≤ r.cG := by omega
  have cT : s.cells.length ≤ r.cT := by omega
  have t0 : ((c.gen : Int) != (m : Int) / 64) = false := by simp; omega
  have t1 : ((c.gen : Int) != (m : Int).tdiv 64) = false := by rw [Int.tdiv_eq_ediv_of_nonneg (by omega)]; exact t0
  have hgn := hs.gn c (List.mem_of_getElem? hc)
  have t3 : wrap64 ((m : Int) / 64) = (m : Int) / 64 := by unfold wrap64; omega
  have t2 : (m : Int).tmod 64 = i := by rw [Int.tmod_eq_emod_of_nonneg (by omega)]; exact hm
  clear hs hc ht hg e hg2 ht2
  generalize s.cells.length = n at *
  go_enter Try.func30, Try.ntmps30
  go_wp2
  go_ret
  exact ⟨rfl, rfl⟩
theorem ref_bad (r : RB) (k : Nat) (h : Int) (s : Sl) (w : World) (hs : IsRef w r k s) (hm : h ≤ 9223372036854775807) (e : s.find h = none) :
    Calls Try.prog 30 #[.pointer (some ⟨r.bR, 0, none⟩), .int .i64 h] w fun e w' => e = .returned (.int .i64 (-1)) ∧ w = w' := by
  rcases Sl.find_none e with h0 | ⟨m, i, rfl, hmi, h64, hor⟩
  · clear hs e hm
    go_enter Try.func30, Try.ntmps30
    go_wp2
    go_ret
    exact ⟨rfl, rfl⟩
  · have p0 := hs.p0
    have p1 := hs.p1
    have n64 := hs.n64
    obtain ⟨rg, _, hg2⟩ := hs.g
    obtain ⟨rt, _, ht2⟩ := hs.t
    have cG : s.cells.length ≤ r.cG := by omega
    have cT : s.cells.length ≤ r.cT := by omega
    have t2 : (m : Int).tmod 64 = i := by rw [Int.tmod_eq_emod_of_nonneg (by omega)]; exact hmi
    rcases hor with hi | ⟨c, hc, hor⟩
    · clear hs e hg2 ht2
      generalize s.cells.length = n at *
      go_enter Try.func30, Try.ntmps30
      go_wp2
      go_ret
      exact ⟨rfl, rfl⟩
    · have c0 := hs.ct hc
      have c1 := hs.cg hc
      have hi : i < s.cells.length := (List.getElem?_eq_some_iff.1 hc).1
      rcases hor with ht | ⟨ht, hg⟩
      · rw [ht] at c0
        clear hs e hg2 ht2 hc
        generalize s.cells.length = n at *
        go_enter Try.func30, Try.ntmps30
        go_wp2
        go_ret
        exact ⟨rfl, rfl⟩
      · rw [ht] at c0
        have t0 : ((c.gen : Int) != (m : Int) / 64) = true := by simp; omega
        have t3 : wrap64 ((m : Int) / 64) = (m : Int) / 64 := by unfold wrap64; omega
        clear hs e hg2 ht2 hc hg
        generalize s.cells.length = n at *
        go_enter Try.func30, Try.ntmps30
        go_wp2
        go_ret
        exact ⟨rfl, rfl⟩
end Go.Proofs.Ytbmapjbjpgoibaa
