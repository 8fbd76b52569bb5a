/- A list of calls that came in, opened to its cells. -/
import Derived.Test.YtknehglahdkafaaDoorWtab
import Derived.Deep.Slices
import Derived.Deep.Fields
import Derived.ChangeSame
namespace Go.Proofs.YtknehglahdkafaaDoor
open Go.ChangeShapes Go.WideShapes Go.ChangeAt Go.RowKit
set_option linter.unusedVariables false

/-- A call as it lies in memory, from there on: three ints. -/
structure OpAt (w : World) (b off : Nat) (d s k : Int) : Prop where
  c0 : w.cell? ⟨b, off, none⟩ = some (.int .i64 d)
  c1 : w.cell? ⟨b, off + 1, none⟩ = some (.int .i64 s)
  c2 : w.cell? ⟨b, off + 2, none⟩ = some (.int .i64 k)
  w0 : I64 d
  w1 : I64 s
  w2 : I64 k
def IsOps (w : World) (A : Option Addr) (len cap : Nat) : Prop :=
  len ≤ cap ∧ cap ≤ maxLen ∧ (0 < len → ∃ b off, A = some ⟨b, off, none⟩ ∧ b < w.heap.size ∧ ∀ i, i < len → ∃ d s k, OpAt w b (off + i * 3) d s k)
theorem IsOps.below {w w' : World} {A : Option Addr} {len cap : Nat} (h : IsOps w A len cap) (hb : Below w.heap.size w w') : IsOps w' A len cap := by
  obtain ⟨h1, h2, h3⟩ := h
  refine ⟨h1, h2, fun h0 => ?_⟩
  obtain ⟨b, off, e, hlt, hall⟩ := h3 h0
  refine ⟨b, off, e, Nat.lt_of_lt_of_le hlt hb.size, fun i hi => ?_⟩
  obtain ⟨d, s, k, ho⟩ := hall i hi
  exact ⟨d, s, k, (hb.cell (p := ⟨b, _, none⟩) hlt).trans ho.c0, (hb.cell (p := ⟨b, _, none⟩) hlt).trans ho.c1, (hb.cell (p := ⟨b, _, none⟩) hlt).trans ho.c2, ho.w0, ho.w1, ho.w2⟩
theorem cellsOp : Tryd.prog.cellsOf 33 = 3 := by kernel_rfl
/-- A struct of fields of one cell each, read field by field. -/
theorem each_field {P : Program} {H : Type} {enc : TypeId × Value → H} {w : World} {base n : Nat} {spare : Nat → Bool} {held : Bool} {t : TypeId} {fs : Array Field} {vs : List Value} {x : DataW H × List MemPlace}
    (hs : P.underlying t = some (.struct fs)) (hone : Deep.oneCellFields P fs = true) (hl : vs.length = fs.size) (h : DataW.trod enc P w base spare held n t vs = some x) (i : Nat) (f : Field) (hf : fs[i]? = some f) :
    ∃ m v y, vs[i]? = some v ∧ DataW.trod enc P w base spare held m f.type [v] = some y := by
  obtain ⟨ys, m, _, _, _, hlen, hall⟩ := DataW.trod_struct hs h
  have hi : i < fs.size := (Array.getElem?_eq_some_iff.1 hf).1
  have h1 := hall i f hf
  obtain ⟨o1, o2⟩ := Deep.hone_of hone i f hf
  rw [o1, o2, List.drop_eq_getElem_cons (by omega), List.getElem?_eq_getElem (show i < ys.length by omega)] at h1
  exact ⟨m, vs[i], _, List.getElem?_eq_getElem (by omega), h1⟩
/-- The cells of one call, read. -/
theorem op_of {H : Type} {enc : TypeId × Value → H} {w : World} {base n : Nat} {held : Bool} {v0 v1 v2 : Value} {x : DataW H × List MemPlace} (h : DataW.trod enc Tryd.prog w base (fun _ => true) held n 33 [v0, v1, v2] = some x) :
    ∃ (z0 z1 z2 : Int), v0 = .int .i64 z0 ∧ v1 = .int .i64 z1 ∧ v2 = .int .i64 z2 ∧ (Lit.int .i64 z0).wf = true ∧ (Lit.int .i64 z1).wf = true ∧ (Lit.int .i64 z2).wf = true := by
  obtain ⟨_, u0, y0, e0, t0⟩ := each_field Tryd.underlying33 (by kernel_rfl) rfl h 0 _ rfl
  obtain ⟨_, u1, y1, e1, t1⟩ := each_field Tryd.underlying33 (by kernel_rfl) rfl h 1 _ rfl
  obtain ⟨_, u2, y2, e2, t2⟩ := each_field Tryd.underlying33 (by kernel_rfl) rfl h 2 _ rfl
  simp at e0 e1 e2
  subst e0 e1 e2
  obtain ⟨z0, r0, _, f0⟩ := DataW.trod_int Tryd.underlying3 t0
  obtain ⟨z1, r1, _, f1⟩ := DataW.trod_int Tryd.underlying3 t1
  obtain ⟨z2, r2, _, f2⟩ := DataW.trod_int Tryd.underlying3 t2
  simp at r0 r1 r2
  exact ⟨z0, z1, z2, r0, r1, r2, f0, f1, f2⟩
theorem open_ops {H : Type} {enc : TypeId × Value → H} {w : World} {r : Reach} {b0 base : Nat} {held : Bool} {v : Value} {d : DataW H} {p : List MemPlace} (hv : Value.okWide Tryd.prog w r b0 22 v)
    (h : DataW.Trod enc Tryd.prog w base (fun _ => true) held 22 v d p) : ∃ a len cap, v = .slice a len cap ∧ IsOps w a len cap := by
  obtain ⟨a, len, cap, rfl⟩ := okWide_slice Tryd.underlying22 hv
  obtain ⟨fuel, hf⟩ := h
  rcases Deep.open_slice Tryd.underlying22 hf with ⟨hcs, _⟩ | ⟨x, l, c, m, n, D, Pl, hcs, _, hl, hm, hmm, _, hi⟩
  · simp [Value.cells] at hcs
    obtain ⟨rfl, rfl, rfl⟩ := hcs
    exact ⟨_, _, _, rfl, Nat.le_refl _, Nat.zero_le _, fun h => absurd h (by omega)⟩
  · simp [Value.cells] at hcs
    obtain ⟨rfl, rfl, rfl⟩ := hcs
    simp at hmm
    subst hmm
    rw [cellsOp] at hi
    refine ⟨_, _, _, rfl, hl, hm, fun h0 => ?_⟩
    obtain ⟨b, off, spot⟩ := x
    obtain ⟨cs0, hc0, _⟩ := hi 0 (by omega)
    obtain ⟨_, hl0, hat0⟩ := World.cells?_some hc0
    have hs0 := hat0 0 (by decide)
    rw [List.getElem?_eq_getElem (show 0 < cs0.length by omega)] at hs0
    have hspot : spot = none := by simpa [Addr.add] using World.cell?_spot hs0
    subst hspot
    have e2 : ∀ b off i, (⟨b, off, none⟩ : Addr).add i = ⟨b, off + i, none⟩ := fun b off i => by unfold Addr.add; split <;> simp_all
    have hlt : b < w.heap.size := by
      have := block_lt_of_cell hs0
      rw [e2, e2] at this
      exact this
    refine ⟨b, off, rfl, hlt, fun i hil => ?_⟩
    obtain ⟨cs, hc, htr⟩ := hi i (by omega)
    obtain ⟨_, hlc, hat⟩ := World.cells?_some hc
    match cs, hlc with
    | [v0, v1, v2], _ =>
      obtain ⟨z0, z1, z2, rfl, rfl, rfl, f0, f1, f2⟩ := op_of htr
      have a0 := hat 0 (by decide)
      have a1 := hat 1 (by decide)
      have a2 := hat 2 (by decide)
      simp only [e2] at a0 a1 a2
      exact ⟨z0, z1, z2, ⟨a0, a1, a2, wf_I64 f0, wf_I64 f1, wf_I64 f2⟩⟩
/-- What Next tells, by the rows. -/
theorem next_ways {R : Nat → List Nat} {m : Nat} (hm : ∀ i, i < 64 → m.testBit i = !(R i).isEmpty) (f : Nat) :
    (∃ i, f ≤ i ∧ i < 64 ∧ R i ≠ [] ∧ (∀ j, f ≤ j → j < i → R j = []) ∧ nextN [m] f = (i, true)) ∨ ((∀ j, f ≤ j → j < 64 → R j = []) ∧ nextN [m] f = (0, false)) := by
  have hb : ∀ i, i < 64 → (bitAt [m] i = true ↔ R i ≠ []) := fun i hi => by
    rw [bit_one m i hi, hm i hi]
    cases R i <;> simp
  by_cases h : ∃ i, f ≤ i ∧ i < 64 ∧ R i ≠ []
  · have key : ∀ n, ∀ i, i ≤ n → f ≤ i → i < 64 → R i ≠ [] → ∃ i, f ≤ i ∧ i < 64 ∧ R i ≠ [] ∧ ∀ j, f ≤ j → j < i → R j = [] := by
      intro n
      induction n with
      | zero => intro i h1 h2 h3 h4; exact ⟨i, h2, h3, h4, fun j hj hj2 => by omega⟩
      | succ n ih =>
        intro i h1 h2 h3 h4
        by_cases q : ∃ j, f ≤ j ∧ j < i ∧ R j ≠ []
        · obtain ⟨j, q1, q2, q3⟩ := q
          exact ih j (by omega) q1 (by omega) q3
        · exact ⟨i, h2, h3, h4, fun j hj hj2 => Classical.byContradiction (fun r => q ⟨j, hj, hj2, r⟩)⟩
    obtain ⟨i0, h1, h2, h3⟩ := h
    obtain ⟨i, a1, a2, a3, a4⟩ := key i0 i0 (Nat.le_refl _) h1 h2 h3
    refine .inl ⟨i, a1, a2, a3, a4, nextFrom_yes [m] i _ f a1 (by simp; omega) ((hb i a2).2 a3) (fun j hj hj2 => ?_)⟩
    cases q : bitAt [m] j with
    | false => rfl
    | true => exact absurd (a4 j hj hj2) ((hb j (by omega)).1 q)
  · have h' : ∀ j, f ≤ j → j < 64 → R j = [] := fun j h1 h2 => Classical.byContradiction (fun r => h ⟨j, h1, h2, r⟩)
    refine .inr ⟨h', nextFrom_no [m] _ f (fun j hj hj2 => ?_)⟩
    have hj3 : j < 64 := by simp at hj2; omega
    cases q : bitAt [m] j with
    | false => rfl
    | true => exact absurd (h' j hj hj3) ((hb j hj3).1 q)
theorem addR_tot (R : Nat → List Nat) (i x : Nat) (hi : i < 64) : tot (addR R i x) 64 ≤ tot R 64 + 1 := by
  have h1 := tot_upd (dropR R x) i (dropR R x i ++ [x]) 64 hi
  have g : ∀ n, tot (dropR R x) n ≤ tot R n := by
    intro n
    induction n with
    | zero => exact Nat.le_refl _
    | succ n ih =>
      rw [tot, tot]
      have := List.length_filter_le (fun y => decide (y ≠ x)) (R n)
      have e : dropR R x n = (R n).filter fun y => decide (y ≠ x) := rfl
      rw [e]
      omega
  have := g 64
  simp at h1
  unfold addR
  omega
theorem dropR_tot (R : Nat → List Nat) (x n : Nat) : tot (dropR R x) n ≤ tot R n := by
  induction n with
  | zero => exact Nat.le_refl _
  | succ n ih =>
    rw [tot, tot]
    have := List.length_filter_le (fun y => decide (y ≠ x)) (R n)
    have e : dropR R x n = (R n).filter fun y => decide (y ≠ x) := rfl
    rw [e]
    omega
theorem Wh.ap {w : World} {bP bM : Nat} {R : Nat → List Nat} (h : Wh w bP bM R) : ∀ i j x, i < 64 → j < 64 → x ∈ R i → x ∈ R j → i = j := by obtain ⟨s, a, b⟩ := h; exact b.ap
theorem Wh.nd {w : World} {bP bM : Nat} {R : Nat → List Nat} (h : Wh w bP bM R) : ∀ i, i < 64 → (R i).Nodup := by obtain ⟨s, a, b⟩ := h; exact b.nd
theorem Wh.le {w : World} {bP bM : Nat} {R : Nat → List Nat} (h : Wh w bP bM R) : ∀ i, i < 64 → ∀ x ∈ R i, x ≤ 1048575 := by obtain ⟨s, a, b⟩ := h; exact b.le
end Go.Proofs.YtknehglahdkafaaDoor
