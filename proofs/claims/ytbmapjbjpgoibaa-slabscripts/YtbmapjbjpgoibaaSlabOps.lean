/- A list of calls that came in, opened to its cells. -/
import Derived.Test.YtbmapjbjpgoibaaSlab10
import Derived.Deep.Slices
import Derived.Deep.Fields
import Derived.ChangeSame
namespace Go.Proofs.Ytbmapjbjpgoibaa
open Go.ChangeShapes Go.WideShapes Go.ChangeAt Go.RowKit
set_option linter.unusedVariables false

/-- A call: what is done, the handle, whether it is a place, the words. -/
structure OpV where
  do_ : Int
  h : Int
  own : Bool
  A : Option Addr
  len : Nat
  cap : Nat
  zs : List Int
/-- A call as it lies in memory, from there on. -/
structure OpAt (w : World) (b off : Nat) (o : OpV) : Prop where
  c0 : w.cell? ⟨b, off, none⟩ = some (.int .i64 o.do_)
  c1 : w.cell? ⟨b, off + 1, none⟩ = some (.int .i64 o.h)
  c2 : w.cell? ⟨b, off + 2, none⟩ = some (.bool o.own)
  c3 : w.cell? ⟨b, off + 3, none⟩ = some (.slice o.A o.len o.cap)
  w0 : (Lit.int .i64 o.do_).wf = true
  w1 : (Lit.int .i64 o.h).wf = true
  ws : IsInts .u64 w o.A o.len o.cap o.zs
def IsOps (w : World) (A : Option Addr) (len cap : Nat) : Prop :=
  len ≤ cap ∧ cap ≤ maxLen ∧ (0 < len → ∃ b off, A = some ⟨b, off, none⟩ ∧ b < w.heap.size ∧ ∀ i, i < len → ∃ o, OpAt w b (off + i * 4) o)

theorem cells1 : Try.prog.cellsOf 3 = 1 ∧ Try.prog.cellsOf 4 = 1 ∧ Try.prog.cellsOf 33 = 1 ∧ Try.prog.cellsOf 49 = 1 := ⟨by kernel_rfl, by kernel_rfl, by kernel_rfl, by kernel_rfl⟩
theorem cells4 : Try.prog.cellsOf 35 = 4 := by kernel_rfl
/-- A struct of fields of one cell each, read field by field. -/
theorem each_field {P : Program} {H : Type} {enc : TypeId × Value → H} {w : World} {base n : Nat} {spare : Nat → Bool} {held : Bool} {t : TypeId} {fs : Array Field} {vs : List Value} {x : DataW H × List MemPlace}
    (hs : P.underlying t = some (.struct fs)) (hone : Deep.oneCellFields P fs = true) (hl : vs.length = fs.size) (h : DataW.trod enc P w base spare held n t vs = some x) (i : Nat) (f : Field) (hf : fs[i]? = some f) :
    ∃ m v y, vs[i]? = some v ∧ DataW.trod enc P w base spare held m f.type [v] = some y := by
  obtain ⟨ys, m, _, _, _, hlen, hall⟩ := DataW.trod_struct hs h
  have hi : i < fs.size := (Array.getElem?_eq_some_iff.1 hf).1
  have h1 := hall i f hf
  obtain ⟨o1, o2⟩ := Deep.hone_of hone i f hf
  rw [o1, o2, List.drop_eq_getElem_cons (by omega), List.getElem?_eq_getElem (show i < ys.length by omega)] at h1
  exact ⟨m, vs[i], _, List.getElem?_eq_getElem (by omega), h1⟩
/-- The cells of one call, read. -/
theorem op_of {H : Type} {enc : TypeId × Value → H} {w : World} {base n : Nat} {held : Bool} {v0 v1 v2 v3 : Value} {x : DataW H × List MemPlace} (h : DataW.trod enc Try.prog w base (fun _ => true) held n 35 [v0, v1, v2, v3] = some x) :
    ∃ (z0 z1 : Int) (z2 : Bool) (A : Option Addr) (l c : Nat) (zs : List Int), v0 = .int .i64 z0 ∧ v1 = .int .i64 z1 ∧ v2 = .bool z2 ∧ v3 = .slice A l c ∧ (Lit.int .i64 z0).wf = true ∧ (Lit.int .i64 z1).wf = true ∧ IsInts .u64 w A l c zs := by
  obtain ⟨k1, k2, k3, k4⟩ := cells1
  obtain ⟨_, u0, y0, e0, t0⟩ := each_field Try.underlying35 (by kernel_rfl) rfl h 0 _ rfl
  obtain ⟨_, u1, y1, e1, t1⟩ := each_field Try.underlying35 (by kernel_rfl) rfl h 1 _ rfl
  obtain ⟨_, u2, y2, e2, t2⟩ := each_field Try.underlying35 (by kernel_rfl) rfl h 2 _ rfl
  obtain ⟨_, u3, y3, e3, t3⟩ := each_field Try.underlying35 (by kernel_rfl) rfl h 3 _ rfl
  simp at e0 e1 e2 e3
  subst e0 e1 e2 e3
  obtain ⟨z0, r0, _, f0⟩ := DataW.trod_int Try.underlying3 t0
  obtain ⟨z1, r1, _, f1⟩ := DataW.trod_int Try.underlying3 t1
  obtain ⟨z2, r2, _⟩ := DataW.trod_bool Try.underlying4 t2
  simp at r0 r1 r2
  rcases open_ints Try.underlying33 Try.underlying49 k4 t3 with ⟨hcs, _⟩ | ⟨x, l, c, zs, hcs, _, hl, hm, hz, _, hcell, hwz⟩
  · simp at hcs
    exact ⟨z0, z1, z2, _, _, _, [], r0, r1, r2, hcs, f0, f1, .inl ⟨rfl, rfl, rfl, rfl⟩⟩
  · simp at hcs
    exact ⟨z0, z1, z2, _, _, _, zs, r0, r1, r2, hcs, f0, f1, .inr ⟨_, rfl, hl, hm, by simpa using hz, hcell, hwz⟩⟩
theorem open_ops {H : Type} {enc : TypeId × Value → H} {w : World} {r : Reach} {b0 base : Nat} {held : Bool} {v : Value} {d : DataW H} {p : List MemPlace} (hv : Value.okWide Try.prog w r b0 22 v)
    (h : DataW.Trod enc Try.prog w base (fun _ => true) held 22 v d p) : ∃ a len cap, v = .slice a len cap ∧ IsOps w a len cap := by
  obtain ⟨a, len, cap, rfl⟩ := okWide_slice Try.underlying22 hv
  obtain ⟨fuel, hf⟩ := h
  rcases Deep.open_slice Try.underlying22 hf with ⟨hcs, _⟩ | ⟨x, l, c, m, n, D, Pl, hcs, _, hl, hm, hmm, _, hi⟩
  · simp [Value.cells] at hcs
    obtain ⟨rfl, rfl, rfl⟩ := hcs
    exact ⟨_, _, _, rfl, Nat.le_refl _, Nat.zero_le _, fun h => absurd h (by omega)⟩
  · simp [Value.cells] at hcs
    obtain ⟨rfl, rfl, rfl⟩ := hcs
    simp at hmm
    subst hmm
    rw [cells4] at hi
    refine ⟨_, _, _, rfl, hl, hm, fun h0 => ?_⟩
    obtain ⟨b, off, spot⟩ := x
    obtain ⟨cs0, hc0, _⟩ := hi 0 (by omega)
    obtain ⟨_, hl0, hat0⟩ := World.cells?_some hc0
    have hs0 := hat0 0 (by decide)
    rw [List.getElem?_eq_getElem (show 0 < cs0.length by omega)] at hs0
    have hspot : spot = none := by simpa [Addr.add] using World.cell?_spot hs0
    subst hspot
    have e2 : ∀ b off i, (⟨b, off, none⟩ : Addr).add i = ⟨b, off + i, none⟩ := fun b off i => by unfold Addr.add; split <;> simp_all
    have hlt : b < w.heap.size := by
      have := block_lt_of_cell hs0
      rw [e2, e2] at this
      exact this
    refine ⟨b, off, rfl, hlt, fun i hil => ?_⟩
    obtain ⟨cs, hc, htr⟩ := hi i (by omega)
    obtain ⟨_, hlc, hat⟩ := World.cells?_some hc
    match cs, hlc with
    | [v0, v1, v2, v3], _ =>
      obtain ⟨z0, z1, z2, A, l, c, zs, rfl, rfl, rfl, rfl, f0, f1, hz⟩ := op_of htr
      have a0 := hat 0 (by decide)
      have a1 := hat 1 (by decide)
      have a2 := hat 2 (by decide)
      have a3 := hat 3 (by decide)
      simp only [e2] at a0 a1 a2 a3
      exact ⟨⟨z0, z1, z2, A, l, c, zs⟩, ⟨a0, a1, a2, a3, f0, f1, hz⟩⟩
end Go.Proofs.Ytbmapjbjpgoibaa
