/- How a cell that comes in by value is opened. -/
import Derived.Test.YtgdcgilhaedbmaaPolOpen
import Derived.Deep.Slices
import Derived.Deep.Fields
import Derived.ChangeSame
namespace Go.Proofs.Ytgdcgilhaedbmaa
open Go.Joins Go.ChangeShapes Go.WideShapes Go.ChangeAt Go.RowKit Go.Deep
set_option linter.unusedVariables false

/-- A cell that came in: its numbers, its sums and its hits. -/
structure CellV where
  a : Int
  n : Int
  sa : Option Addr
  ha : Option Addr
  sn : Nat
  sc : Nat
  hn : Nat
  hc : Nat
  zs : List Int
/-- The hits, as they lie in memory. -/
def IsHits (w : World) (A : Option Addr) (len cap : Nat) : Prop :=
  len ≤ cap ∧ cap ≤ maxLen ∧ (0 < len → ∃ b off, A = some ⟨b, off, none⟩ ∧ b < w.heap.size ∧ ∀ i, i < len → ∃ x y : Int, w.cell? ⟨b, off + i * 2, none⟩ = some (.int .i64 x) ∧ w.cell? ⟨b, off + i * 2 + 1, none⟩ = some (.int .i64 y))
structure IsCell (w : World) (c : CellV) : Prop where
  wa : (Lit.int .i64 c.a).wf = true
  wn : (Lit.int .i64 c.n).wf = true
  ss : IsInts .i64 w c.sa c.sn c.sc c.zs
  hs : IsHits w c.ha c.hn c.hc
theorem IsCell.len {w : World} {c : CellV} (h : IsCell w c) : c.sn ≤ maxLen ∧ c.hn ≤ maxLen := by
  refine ⟨?_, Nat.le_trans h.hs.1 h.hs.2.1⟩
  rcases h.ss with ⟨_, e, _⟩ | ⟨x, _, h1, h2, _⟩
  · omega
  · omega
/-- A struct of fields of one cell each, read field by field. -/
theorem each_field {P : Program} {H : Type} {enc : TypeId × Value → H} {w : World} {base n : Nat} {spare : Nat → Bool} {held : Bool} {t : TypeId} {fs : Array Field} {vs : List Value} {x : DataW H × List MemPlace}
    (hs : P.underlying t = some (.struct fs)) (hone : Deep.oneCellFields P fs = true) (hl : vs.length = fs.size) (h : DataW.trod enc P w base spare held n t vs = some x) (i : Nat) (f : Field) (hf : fs[i]? = some f) :
    ∃ m v y, vs[i]? = some v ∧ DataW.trod enc P w base spare held m f.type [v] = some y := by
  obtain ⟨ys, m, _, _, _, hlen, hall⟩ := DataW.trod_struct hs h
  have hi : i < fs.size := (Array.getElem?_eq_some_iff.1 hf).1
  have h1 := hall i f hf
  obtain ⟨o1, o2⟩ := Deep.hone_of hone i f hf
  rw [o1, o2, List.drop_eq_getElem_cons (by omega), List.getElem?_eq_getElem (show i < ys.length by omega)] at h1
  exact ⟨m, vs[i], _, List.getElem?_eq_getElem (by omega), h1⟩
theorem cellsHit : Try.prog.cellsOf 50 = 2 ∧ Try.prog.cellsOf 3 = 1 := ⟨by kernel_rfl, by kernel_rfl⟩
theorem open_hits {H : Type} {enc : TypeId × Value → H} {w : World} {base fuel : Nat} {held : Bool} {v : Value} {x : DataW H × List MemPlace}
    (hf : DataW.trod enc Try.prog w base (fun _ => true) held fuel 25 [v] = some x) : ∃ A len cap, v = .slice A len cap ∧ IsHits w A len cap := by
  rcases Deep.open_slice Try.underlying25 hf with ⟨hcs, _⟩ | ⟨x, l, c, m, n, D, Pl, hcs, _, hl, hm, hmm, _, hi⟩
  · simp at hcs
    exact ⟨_, _, _, hcs, Nat.le_refl _, Nat.zero_le _, fun h => absurd h (by omega)⟩
  · simp at hcs hmm
    subst hmm
    rw [cellsHit.1] at hi
    refine ⟨_, _, _, hcs, hl, hm, fun h0 => ?_⟩
    obtain ⟨b, off, spot⟩ := x
    obtain ⟨cs0, hc0, _⟩ := hi 0 (by omega)
    obtain ⟨_, hl0, hat0⟩ := World.cells?_some hc0
    have hs0 := hat0 0 (by decide)
    rw [List.getElem?_eq_getElem (show 0 < cs0.length by omega)] at hs0
    have hspot : spot = none := by simpa [Addr.add] using World.cell?_spot hs0
    subst hspot
    have e2 : ∀ b off i, (⟨b, off, none⟩ : Addr).add i = ⟨b, off + i, none⟩ := fun b off i => by unfold Addr.add; split <;> simp_all
    have hlt : b < w.heap.size := by
      have := block_lt_of_cell hs0
      rw [e2, e2] at this
      exact this
    refine ⟨b, off, rfl, hlt, fun i hil => ?_⟩
    obtain ⟨cs, hc, htr⟩ := hi i (by omega)
    obtain ⟨_, hlc, hat⟩ := World.cells?_some hc
    match cs, hlc with
    | [v0, v1], _ =>
      obtain ⟨_, u0, y0, e0, t0⟩ := each_field Try.underlying50 (by kernel_rfl) rfl htr 0 _ rfl
      obtain ⟨_, u1, y1, e1, t1⟩ := each_field Try.underlying50 (by kernel_rfl) rfl htr 1 _ rfl
      simp at e0 e1
      subst e0 e1
      obtain ⟨z0, q0, _, _⟩ := DataW.trod_int Try.underlying3 t0
      obtain ⟨z1, q1, _, _⟩ := DataW.trod_int Try.underlying3 t1
      simp at q0 q1
      subst q0 q1
      have a0 := hat 0 (by decide)
      have a1 := hat 1 (by decide)
      simp only [e2] at a0 a1
      exact ⟨z0, z1, a0, a1⟩
theorem open_cell {H : Type} {enc : TypeId × Value → H} {w : World} {r : Reach} {b0 base : Nat} {held : Bool} {v : Value} {d : DataW H} {p : List MemPlace} (hv : Value.okWide Try.prog w r b0 27 v)
    (h : DataW.Trod enc Try.prog w base (fun _ => true) held 27 v d p) : ∃ c : CellV, v = .agg #[.int .i64 c.a, .int .i64 c.n, .slice c.sa c.sn c.sc, .slice c.ha c.hn c.hc] ∧ IsCell w c := by
  obtain ⟨v0, v1, v2, v3, y0, y1, y2, y3, n, rfl, _, _, h0, h1, h2, h3⟩ := open_agg4 Try.underlying27 (by kernel_rfl) (by kernel_rfl) hv h
  obtain ⟨a0, e0, _, f0⟩ := DataW.trod_int Try.underlying3 h0
  obtain ⟨a1, e1, _, f1⟩ := DataW.trod_int Try.underlying3 h1
  simp at e0 e1
  subst e0 e1
  obtain ⟨ha, hn, hc, rfl, hh⟩ := open_hits h3
  rcases open_ints Try.underlying24 Try.underlying3 cellsHit.2 h2 with ⟨hcs, _⟩ | ⟨x, l, c, zs, hcs, _, hl, hm, hz, _, hcell, hwz⟩
  · simp at hcs
    subst hcs
    exact ⟨⟨a0, a1, none, ha, 0, 0, hn, hc, []⟩, rfl, f0, f1, .inl ⟨rfl, rfl, rfl, rfl⟩, hh⟩
  · simp at hcs
    subst hcs
    exact ⟨⟨a0, a1, _, ha, _, _, hn, hc, zs⟩, rfl, f0, f1, .inr ⟨_, rfl, hl, hm, by simpa using hz, hcell, hwz⟩, hh⟩
end Go.Proofs.Ytgdcgilhaedbmaa
