/- Books over many calls: what stays so; arrays of a law's own. -/
import Derived.Test.YtgdcgilhaedbmacBkLive
import Derived.Test.YtgdcgilhaedbmacBkOpen
namespace Go.Proofs.Ytgdcgilhaedbmac
open Go.ChangeShapes Go.WideShapes Go.ChangeAt Go.RowKit
set_option linter.unusedVariables false

theorem putB_eq (L : Nat → Bk) (j : Nat) (B : Bk) : putB L j B j = B := if_pos rfl
theorem putB_ne (L : Nat → Bk) {j i : Nat} (B : Bk) (h : i ≠ j) : putB L j B i = L i := if_neg h
theorem may_set {n : Nat} {L : Nat → Bk} {id k l v b c : Int} (h : MayBs n L) (hc : SetC n L id k l v b c) : MayBs n (setL c L id k l v b) := by
  unfold setL
  by_cases h0 : c = 0
  · rw [if_pos h0]
    rcases hc with ⟨q, _⟩ | ⟨q, _⟩ | ⟨_, _, hi, hp, hv⟩
    · omega
    · omega
    · refine ⟨h.1, fun i h8 => ?_⟩
      by_cases e : i = id.toNat
      · rw [e, putB_eq]
        have := (h.2 id.toNat (by omega)).n0
        exact ⟨by simp only; omega, by simp only; omega, fun _ => ⟨hp, by simp only; omega⟩, fun q => by cases q⟩
      · rw [putB_ne L _ e]; exact h.2 i h8
  · rw [if_neg h0]; exact h
theorem may_del {n : Nat} {L : Nat → Bk} {id c : Int} (h : MayBs n L) (hc : GetC n L id c) : MayBs n (delL c L id) := by
  unfold delL
  by_cases h0 : c = 0
  · rw [if_pos h0]
    rcases hc with ⟨q, _⟩ | ⟨q, _⟩ | ⟨_, _, hi, _⟩
    · omega
    · omega
    · refine ⟨h.1, fun i h8 => ?_⟩
      by_cases e : i = id.toNat
      · rw [e, putB_eq]
        have q := h.2 id.toNat (by omega)
        exact ⟨by have := q.n0; simp only; omega, by have := q.n1; simp only; omega, fun q => (by cases q), fun _ => ⟨rfl, rfl, rfl, rfl⟩⟩
      · rw [putB_ne L _ e]; exact h.2 i h8
  · rw [if_neg h0]; exact h
theorem rd_of {w : World} {A : Option Addr} {len cap : Nat} {zs : List Int} (h : IsInts .i64 w A len cap zs) : RdI w A len (fun i => zs.getD i 0) := by
  rcases h with ⟨rfl, rfl, rfl, rfl⟩ | ⟨x, rfl, hl, hm, hz, hc, hw⟩
  · exact fun h => absurd h (by omega)
  · intro h0
    obtain ⟨b, off, spot⟩ := x
    have h1 := hc 0 (by omega)
    have hspot : spot = none := by simpa [Addr.add] using World.cell?_spot h1
    subst hspot
    have e2 : ∀ i, (⟨b, off, none⟩ : Addr).add i = ⟨b, off + i, none⟩ := fun i => by unfold Addr.add; split <;> simp_all
    have hlt : b < w.heap.size := by
      have := block_lt_of_cell h1
      rw [e2] at this
      exact this
    refine ⟨b, off, rfl, hlt, fun i hi => ?_⟩
    have h2 := hc i (by omega)
    rw [e2] at h2
    exact h2
theorem int_len {w : World} {A : Option Addr} {len cap : Nat} {zs : List Int} (h : IsInts .i64 w A len cap zs) : len ≤ maxLen := by
  rcases h with ⟨rfl, rfl, rfl, rfl⟩ | ⟨x, rfl, hl, hm, hz, hc, hw⟩
  · exact Nat.zero_le _
  · omega
/-- A list of values. -/
def valsF (f : Nat → Value) : Nat → List Value
  | 0 => []
  | n + 1 => valsF f n ++ [f n]
theorem valsF_len (f : Nat → Value) (n : Nat) : (valsF f n).length = n := by
  induction n with
  | zero => rfl
  | succ n ih => simp only [valsF, List.length_append, ih, List.length_cons, List.length_nil]
theorem valsF_get (f : Nat → Value) (n i : Nat) (h : i < n) : (valsF f n)[i]? = some (f i) := by
  induction n with
  | zero => omega
  | succ n ih =>
    simp only [valsF]
    by_cases e : i = n
    · subst e; rw [List.getElem?_append_right (by rw [valsF_len]; exact Nat.le_refl _), valsF_len, Nat.sub_self]; rfl
    · rw [List.getElem?_append_left (by rw [valsF_len]; omega)]; exact ih (by omega)
theorem valsF_congr {f g : Nat → Value} {n : Nat} (e : ∀ i, i < n → f i = g i) : valsF f n = valsF g n := by
  induction n with
  | zero => rfl
  | succ n ih => simp only [valsF]; rw [ih (fun i hi => e i (by omega)), e n (by omega)]
theorem valsF_set (f g : Nat → Value) (n j : Nat) (u : Value) (hj : j < n) (e : ∀ i, i < n → g i = if i = j then u else f i) : (valsF f n).set j u = valsF g n := by
  induction n with
  | zero => omega
  | succ n ih =>
    simp only [valsF]
    by_cases c : j = n
    · subst c
      rw [List.set_append_right _ _ (by rw [valsF_len]; exact Nat.le_refl _), valsF_len, Nat.sub_self, valsF_congr (f := g) (g := f) (fun i hi => by rw [e i (by omega), if_neg (by omega)]), e j (by omega), if_pos rfl]
      rfl
    · rw [List.set_append_left _ _ (by rw [valsF_len]; omega), ih (by omega) (fun i hi => e i (by omega)), e n (by omega), if_neg (by omega)]
/-- A law's own array, and the books as they stand. -/
structure Sv (W : World) (g : Nat) (t : TypeId) (A : Option Addr) (L : Nat → Bk) (F : Nat → Value) (w : World) : Prop where
  be : Below W.heap.size W w
  gl : W.heap.size ≤ g
  la : Has w g t (valsF F 8)
  kb : BksAt w A 8 L
  ne : ∀ b o, A = some ⟨b, o, none⟩ → b ≠ g
section
variable {W : World} {g : Nat} {t : TypeId} {A : Option Addr} {L : Nat → Bk} {F : Nat → Value} {w w' : World}
theorem Sv.step (h : Sv W g t A L F w) (hb : Below w.heap.size w w') : Sv W g t A L F w' := ⟨h.be.trans (hb.mono h.be.size), h.gl, hstep h.la hb, h.kb.below hb, h.ne⟩
theorem Sv.drew (h : Sv W g t A L F w) : Sv W g t A L F w.drew := h.step (Below.refl _ _).drew
theorem Sv.put (h : Sv W g t A L F w) {j : Nat} {u : Value} {G : Nat → Value} (hj : j < 8) (e : ∀ i, i < 8 → G i = if i = j then u else F i) : Sv W g t A L G (w.setCell ⟨g, j, none⟩ u) := by
  refine ⟨h.be.setCell (p := ⟨g, j, none⟩) h.gl u, h.gl, ?_, ?_, h.ne⟩
  · have := h.la.store j u
    rw [valsF_set F G 8 j u hj e] at this
    exact this
  · intro h0
    obtain ⟨b, o, ea, hl, hc⟩ := h.kb h0
    refine ⟨b, o, ea, by simpa [World.setCell] using hl, fun i hi q z hz => ?_⟩
    exact (World.cell?_of_block (w := w) (a := ⟨b, o + i * 6 + q, none⟩) (Below.heap_setCell w ⟨g, j, none⟩ u b (h.ne b o ea))).trans (hc i hi q z hz)
end
/-- All numbers, or all yes and no. -/
def OneK (F : Nat → Value) : Prop := (∀ i, i < 8 → ∃ x, F i = .int .i64 x) ∨ (∀ i, i < 8 → ∃ x, F i = .bool x)
/-- New books lie elsewhere. -/
theorem kb_ne {w : World} {g : Nat} {t : TypeId} {A : Option Addr} {L : Nat → Bk} {F : Nat → Value} (hk : BksAt w A 8 L) (hl : Has w g t (valsF F 8)) (hF : OneK F) : ∀ b o, A = some ⟨b, o, none⟩ → b ≠ g := by
  intro b o e hb
  subst e hb
  obtain ⟨_, q0, q1, _⟩ := hk.six (show 0 < 8 by decide)
  rw [Nat.zero_mul, Nat.add_zero] at q0 q1
  rw [hl.cell] at q0 q1
  have h0 : o < 8 := by have := (List.getElem?_eq_some_iff.1 q0).1; rw [valsF_len] at this; exact this
  have h1 : o + 1 < 8 := by have := (List.getElem?_eq_some_iff.1 q1).1; rw [valsF_len] at this; exact this
  rw [valsF_get F 8 o h0] at q0
  rw [valsF_get F 8 (o + 1) h1] at q1
  injection q0 with q0
  injection q1 with q1
  rcases hF with hF | hF
  · obtain ⟨x, e⟩ := hF o h0
    rw [e] at q0
    cases q0
  · obtain ⟨x, e⟩ := hF (o + 1) h1
    rw [e] at q1
    cases q1
theorem Sv.told {W : World} {g : Nat} {t : TypeId} {A A' : Option Addr} {L L' : Nat → Bk} {F : Nat → Value} {w w' : World} (h : Sv W g t A L F w) (hk : BksAt w' A' 8 L') (hb : Below w.heap.size w w') (hF : OneK F) : Sv W g t A' L' F w' :=
  ⟨(h.step hb).be, h.gl, (h.step hb).la, hk, kb_ne hk (h.step hb).la hF⟩
theorem Sv.made {W w : World} {t : TypeId} {A : Option Addr} {L : Nat → Bk} {F : Nat → Value} (hb : Below W.heap.size W w) (hk : BksAt w A 8 L) (hF : OneK F) : Sv W w.heap.size t A L F (w.alloc (.cells (valsF F 8).toArray t)) :=
  have bb := (Below.refl w.heap.size w).alloc (Nat.le_refl _) (.cells (valsF F 8).toArray t)
  ⟨hb.trans (bb.mono hb.size), hb.size, Has.made w t (valsF F 8), hk.below bb, kb_ne (hk.below bb) (Has.made w t (valsF F 8)) hF⟩
theorem Sv.at {W : World} {g : Nat} {t : TypeId} {A : Option Addr} {L : Nat → Bk} {F : Nat → Value} {w : World} (h : Sv W g t A L F w) {j : Nat} (hj : j < 8) : w.cell? ⟨g, j, none⟩ = some (F j) := (h.la.cell j).trans (valsF_get F 8 j hj)
/-- The arguments of one call. -/
structure Arg (W : World) (bi oi bp op i : Nat) (z k l v b : Int) : Prop where
  li : bi < W.heap.size
  lp : bp < W.heap.size
  ci : W.cell? ⟨bi, oi + i, none⟩ = some (.int .i64 z)
  p0 : W.cell? ⟨bp, op + i * 4, none⟩ = some (.int .i64 k)
  p1 : W.cell? ⟨bp, op + i * 4 + 1, none⟩ = some (.int .i64 l)
  p2 : W.cell? ⟨bp, op + i * 4 + 2, none⟩ = some (.int .i64 v)
  p3 : W.cell? ⟨bp, op + i * 4 + 3, none⟩ = some (.int .i64 b)
theorem Arg.five {W : World} {bi oi bp op i : Nat} {z k l v b : Int} {w : World} (h : Arg W bi oi bp op i z k l v b) (hb : Below W.heap.size W w) :
    w.cell? ⟨bi, oi + i, none⟩ = some (.int .i64 z) ∧ w.cell? ⟨bp, op + i * 4, none⟩ = some (.int .i64 k) ∧ w.cell? ⟨bp, op + i * 4 + 1, none⟩ = some (.int .i64 l) ∧ w.cell? ⟨bp, op + i * 4 + 2, none⟩ = some (.int .i64 v) ∧ w.cell? ⟨bp, op + i * 4 + 3, none⟩ = some (.int .i64 b) :=
  ⟨(hb.cell (p := ⟨bi, oi + i, none⟩) h.li).trans h.ci, (hb.cell (p := ⟨bp, op + i * 4, none⟩) h.lp).trans h.p0, (hb.cell (p := ⟨bp, op + i * 4 + 1, none⟩) h.lp).trans h.p1, (hb.cell (p := ⟨bp, op + i * 4 + 2, none⟩) h.lp).trans h.p2, (hb.cell (p := ⟨bp, op + i * 4 + 3, none⟩) h.lp).trans h.p3⟩
theorem may_L0 : MayBs 8 L0 := by decide +kernel
theorem oneK_n (L : Nat → Bk) : OneK (fun j => .int .i64 (L j).n) := .inl fun i _ => ⟨_, rfl⟩
theorem oneK_on (L : Nat → Bk) : OneK (fun j => .bool (L j).on) := .inr fun i _ => ⟨_, rfl⟩
/-- Set, where it sets. -/
theorem setL_yes {L : Nat → Bk} {z k l v b : Int} : setL 0 L z k l v b = putB L z.toNat ⟨true, k, l, v, b, (L z.toNat).n + 1⟩ ∧ setM 0 L z = (L z.toNat).n + 1 := ⟨if_pos rfl, if_pos rfl⟩
theorem setL_no {L : Nat → Bk} {z k l v b c : Int} (h : c ≠ 0) : setL c L z k l v b = L ∧ setM c L z = 0 := ⟨if_neg h, if_neg h⟩
theorem setC_in {n : Nat} {L : Nat → Bk} {z k l v b : Int} (h : SetC n L z k l v b 0) : 0 ≤ z ∧ z < 8 ∧ (L z.toNat).n < 1073741824 := by
  rcases h with ⟨q, _⟩ | ⟨q, _⟩ | ⟨_, _, hi, _, hv⟩
  · omega
  · omega
  · exact ⟨hi.1, hi.2, hv⟩
theorem getC_in {n : Nat} {L : Nat → Bk} {z : Int} (h : GetC n L z 0) : 0 ≤ z ∧ z < 8 ∧ (L z.toNat).on = true := by
  rcases h with ⟨q, _⟩ | ⟨q, _⟩ | ⟨_, _, hi, ho⟩
  · omega
  · omega
  · exact ⟨hi.1, hi.2, ho⟩
theorem del_n (c : Int) (L : Nat → Bk) (z : Int) : (fun j => Value.int .i64 (delL c L z j).n) = fun j => .int .i64 (L j).n := by
  funext j
  unfold delL
  by_cases h0 : c = 0
  · rw [if_pos h0]
    unfold putB
    by_cases e : j = z.toNat
    · rw [if_pos e, e]; simp
    · rw [if_neg e]
  · rw [if_neg h0]
end Go.Proofs.Ytgdcgilhaedbmac
