/- A list of calls that came in, opened to its cells. -/
import Derived.Test.YtjkejlnelkckgaaRcLive
import Derived.Test.YtjkejlnelkckgaaOpen
import Derived.Deep.Slices
import Derived.Deep.Fields
import Derived.ChangeSame
namespace Go.Proofs.Ytjkejlnelkckgaa
open Go.ChangeShapes Go.WideShapes Go.ChangeAt Go.RowKit
set_option linter.unusedVariables false

/-- A call as it lies in memory, from there on: two ints. -/
structure OpAt (w : World) (b off : Nat) (d k : Int) : Prop where
  c0 : w.cell? ⟨b, off, none⟩ = some (.int .i64 d)
  c1 : w.cell? ⟨b, off + 1, none⟩ = some (.int .i64 k)
  w0 : I64 d
  w1 : I64 k
def IsOps (w : World) (A : Option Addr) (len cap : Nat) : Prop :=
  len ≤ cap ∧ cap ≤ maxLen ∧ (0 < len → ∃ b off, A = some ⟨b, off, none⟩ ∧ b < w.heap.size ∧ ∀ i, i < len → ∃ d k, OpAt w b (off + i * 2) d k)
theorem IsOps.below {w w' : World} {A : Option Addr} {len cap : Nat} (h : IsOps w A len cap) (hb : Below w.heap.size w w') : IsOps w' A len cap := by
  obtain ⟨h1, h2, h3⟩ := h
  refine ⟨h1, h2, fun h0 => ?_⟩
  obtain ⟨b, off, e, hlt, hall⟩ := h3 h0
  refine ⟨b, off, e, Nat.lt_of_lt_of_le hlt hb.size, fun i hi => ?_⟩
  obtain ⟨d, k, ho⟩ := hall i hi
  exact ⟨d, k, (hb.cell (p := ⟨b, _, none⟩) hlt).trans ho.c0, (hb.cell (p := ⟨b, _, none⟩) hlt).trans ho.c1, ho.w0, ho.w1⟩
theorem cellsOp : Try.prog.cellsOf 31 = 2 := by kernel_rfl
/-- A struct of fields of one cell each, read field by field. -/
theorem each_field {P : Program} {H : Type} {enc : TypeId × Value → H} {w : World} {base n : Nat} {spare : Nat → Bool} {held : Bool} {t : TypeId} {fs : Array Field} {vs : List Value} {x : DataW H × List MemPlace}
    (hs : P.underlying t = some (.struct fs)) (hone : Deep.oneCellFields P fs = true) (hl : vs.length = fs.size) (h : DataW.trod enc P w base spare held n t vs = some x) (i : Nat) (f : Field) (hf : fs[i]? = some f) :
    ∃ m v y, vs[i]? = some v ∧ DataW.trod enc P w base spare held m f.type [v] = some y := by
  obtain ⟨ys, m, _, _, _, hlen, hall⟩ := DataW.trod_struct hs h
  have hi : i < fs.size := (Array.getElem?_eq_some_iff.1 hf).1
  have h1 := hall i f hf
  obtain ⟨o1, o2⟩ := Deep.hone_of hone i f hf
  rw [o1, o2, List.drop_eq_getElem_cons (by omega), List.getElem?_eq_getElem (show i < ys.length by omega)] at h1
  exact ⟨m, vs[i], _, List.getElem?_eq_getElem (by omega), h1⟩
/-- The cells of one call, read. -/
theorem op_of {H : Type} {enc : TypeId × Value → H} {w : World} {base n : Nat} {held : Bool} {v0 v1 : Value} {x : DataW H × List MemPlace} (h : DataW.trod enc Try.prog w base (fun _ => true) held n 31 [v0, v1] = some x) :
    ∃ (z0 z1 : Int), v0 = .int .i64 z0 ∧ v1 = .int .i64 z1 ∧ (Lit.int .i64 z0).wf = true ∧ (Lit.int .i64 z1).wf = true := by
  obtain ⟨_, u0, y0, e0, t0⟩ := each_field Try.underlying31 (by kernel_rfl) rfl h 0 _ rfl
  obtain ⟨_, u1, y1, e1, t1⟩ := each_field Try.underlying31 (by kernel_rfl) rfl h 1 _ rfl
  simp at e0 e1
  subst e0 e1
  obtain ⟨z0, r0, _, f0⟩ := DataW.trod_int Try.underlying3 t0
  obtain ⟨z1, r1, _, f1⟩ := DataW.trod_int Try.underlying3 t1
  simp at r0 r1
  exact ⟨z0, z1, r0, r1, f0, f1⟩
theorem open_ops {H : Type} {enc : TypeId × Value → H} {w : World} {r : Reach} {b0 base : Nat} {held : Bool} {v : Value} {d : DataW H} {p : List MemPlace} (hv : Value.okWide Try.prog w r b0 22 v)
    (h : DataW.Trod enc Try.prog w base (fun _ => true) held 22 v d p) : ∃ a len cap, v = .slice a len cap ∧ IsOps w a len cap := by
  obtain ⟨a, len, cap, rfl⟩ := okWide_slice Try.underlying22 hv
  obtain ⟨fuel, hf⟩ := h
  rcases Deep.open_slice Try.underlying22 hf with ⟨hcs, _⟩ | ⟨x, l, c, m, n, D, Pl, hcs, _, hl, hm, hmm, _, hi⟩
  · simp [Value.cells] at hcs
    obtain ⟨rfl, rfl, rfl⟩ := hcs
    exact ⟨_, _, _, rfl, Nat.le_refl _, Nat.zero_le _, fun h => absurd h (by omega)⟩
  · simp [Value.cells] at hcs
    obtain ⟨rfl, rfl, rfl⟩ := hcs
    simp at hmm
    subst hmm
    rw [cellsOp] at hi
    refine ⟨_, _, _, rfl, hl, hm, fun h0 => ?_⟩
    obtain ⟨b, off, spot⟩ := x
    obtain ⟨cs0, hc0, _⟩ := hi 0 (by omega)
    obtain ⟨_, hl0, hat0⟩ := World.cells?_some hc0
    have hs0 := hat0 0 (by decide)
    rw [List.getElem?_eq_getElem (show 0 < cs0.length by omega)] at hs0
    have hspot : spot = none := by simpa [Addr.add] using World.cell?_spot hs0
    subst hspot
    have e2 : ∀ b off i, (⟨b, off, none⟩ : Addr).add i = ⟨b, off + i, none⟩ := fun b off i => by unfold Addr.add; split <;> simp_all
    have hlt : b < w.heap.size := by
      have := block_lt_of_cell hs0
      rw [e2, e2] at this
      exact this
    refine ⟨b, off, rfl, hlt, fun i hil => ?_⟩
    obtain ⟨cs, hc, htr⟩ := hi i (by omega)
    obtain ⟨_, hlc, hat⟩ := World.cells?_some hc
    match cs, hlc with
    | [v0, v1], _ =>
      obtain ⟨z0, z1, rfl, rfl, f0, f1⟩ := op_of htr
      have a0 := hat 0 (by decide)
      have a1 := hat 1 (by decide)
      simp only [e2] at a0 a1
      exact ⟨z0, z1, ⟨a0, a1, wf_I64 f0, wf_I64 f1⟩⟩
end Go.Proofs.Ytjkejlnelkckgaa
