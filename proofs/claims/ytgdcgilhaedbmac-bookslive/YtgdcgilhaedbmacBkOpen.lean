/- How lists of books, and of policies, that come in are opened. -/
import Derived.Test.YtgdcgilhaedbmacPolOpen
import Derived.Test.YtgdcgilhaedbmacBk0
import Derived.Deep.Slices
import Derived.Deep.Fields
import Derived.ChangeSame
namespace Go.Proofs.Ytgdcgilhaedbmac
open Go.Joins Go.ChangeShapes Go.WideShapes Go.ChangeAt Go.RowKit Go.Deep
set_option linter.unusedVariables false

theorem cellsBk : Try.prog.cellsOf 43 = 6 ∧ Try.prog.cellsOf 25 = 4 ∧ Try.prog.cellsOf 3 = 1 ∧ Try.prog.cellsOf 4 = 1 := ⟨by kernel_rfl, by kernel_rfl, by kernel_rfl, by kernel_rfl⟩
theorem open_four {H : Type} {enc : TypeId × Value → H} {w : World} {base fuel : Nat} {spare : Nat → Bool} {held : Bool} {c0 c1 c2 c3 : Value} {x : DataW H × List MemPlace}
    (hf : DataW.trod enc Try.prog w base spare held fuel 25 [c0, c1, c2, c3] = some x) : ∃ k l v b : Int, c0 = .int .i64 k ∧ c1 = .int .i64 l ∧ c2 = .int .i64 v ∧ c3 = .int .i64 b := by
  obtain ⟨ys, m, _, _, hlen, hys, hall⟩ := DataW.trod_struct Try.underlying25 hf
  obtain ⟨_, _, ci, _⟩ := cellsBk
  have g : ∀ i, i < 4 → ∃ y, ys[i]? = some y := fun i hi => ⟨_, List.getElem?_eq_getElem (by rw [hys]; exact hi)⟩
  obtain ⟨y0, e0⟩ := g 0 (by decide)
  obtain ⟨y1, e1⟩ := g 1 (by decide)
  obtain ⟨y2, e2⟩ := g 2 (by decide)
  obtain ⟨y3, e3⟩ := g 3 (by decide)
  have h0 : DataW.trod enc Try.prog w base spare held m 3 (List.take (Try.prog.cellsOf 3) (List.drop 0 [c0, c1, c2, c3])) = ys[0]? := hall 0 _ rfl
  have h1 : DataW.trod enc Try.prog w base spare held m 3 (List.take (Try.prog.cellsOf 3) (List.drop 1 [c0, c1, c2, c3])) = ys[1]? := hall 1 _ rfl
  have h2 : DataW.trod enc Try.prog w base spare held m 3 (List.take (Try.prog.cellsOf 3) (List.drop 2 [c0, c1, c2, c3])) = ys[2]? := hall 2 _ rfl
  have h3 : DataW.trod enc Try.prog w base spare held m 3 (List.take (Try.prog.cellsOf 3) (List.drop 3 [c0, c1, c2, c3])) = ys[3]? := hall 3 _ rfl
  rw [e0, ci] at h0
  rw [e1, ci] at h1
  rw [e2, ci] at h2
  rw [e3, ci] at h3
  obtain ⟨k, q0, _, _⟩ := DataW.trod_int Try.underlying3 h0
  obtain ⟨l, q1, _, _⟩ := DataW.trod_int Try.underlying3 h1
  obtain ⟨v, q2, _, _⟩ := DataW.trod_int Try.underlying3 h2
  obtain ⟨b, q3, _, _⟩ := DataW.trod_int Try.underlying3 h3
  simp at q0 q1 q2 q3
  exact ⟨k, l, v, b, q0, q1, q2, q3⟩
theorem open_bk {H : Type} {enc : TypeId × Value → H} {w : World} {base fuel : Nat} {spare : Nat → Bool} {held : Bool} {cs : List Value} {x : DataW H × List MemPlace}
    (hf : DataW.trod enc Try.prog w base spare held fuel 43 cs = some x) : ∃ B : Bk, cs = bkC B := by
  obtain ⟨ys, m, _, _, hlen, hys, hall⟩ := DataW.trod_struct Try.underlying43 hf
  obtain ⟨c6, c4, ci, cb⟩ := cellsBk
  rw [c6] at hlen
  match cs, hlen with
  | [d0, d1, d2, d3, d4, d5], _ =>
    have g : ∀ i, i < 3 → ∃ y, ys[i]? = some y := fun i hi => ⟨_, List.getElem?_eq_getElem (by rw [hys]; exact hi)⟩
    obtain ⟨y0, e0⟩ := g 0 (by decide)
    obtain ⟨y1, e1⟩ := g 1 (by decide)
    obtain ⟨y2, e2⟩ := g 2 (by decide)
    have h0 : DataW.trod enc Try.prog w base spare held m 4 (List.take (Try.prog.cellsOf 4) (List.drop 0 [d0, d1, d2, d3, d4, d5])) = ys[0]? := hall 0 _ rfl
    have h1 : DataW.trod enc Try.prog w base spare held m 25 (List.take (Try.prog.cellsOf 25) (List.drop 1 [d0, d1, d2, d3, d4, d5])) = ys[1]? := hall 1 _ rfl
    have h2 : DataW.trod enc Try.prog w base spare held m 3 (List.take (Try.prog.cellsOf 3) (List.drop 5 [d0, d1, d2, d3, d4, d5])) = ys[2]? := hall 2 _ rfl
    rw [e0, cb] at h0
    rw [e1, c4] at h1
    rw [e2, ci] at h2
    obtain ⟨on, q0, _⟩ := DataW.trod_bool Try.underlying4 h0
    obtain ⟨k, l, v, b, q1, q2, q3, q4⟩ := open_four (show DataW.trod enc Try.prog w base spare held m 25 [d1, d2, d3, d4] = some y1 from h1)
    obtain ⟨n, q5, _, _⟩ := DataW.trod_int Try.underlying3 h2
    simp at q0 q5
    exact ⟨⟨on, k, l, v, b, n⟩, by rw [q0, q1, q2, q3, q4, q5]; rfl⟩
/-- A list of books that came in. -/
def IsBks (w : World) (A : Option Addr) (len cap : Nat) : Prop := len ≤ cap ∧ cap ≤ maxLen ∧ ∃ L, BksAt w A len L
theorem open_bks {H : Type} {enc : TypeId × Value → H} {w : World} {base fuel : Nat} {held : Bool} {v : Value} {x : DataW H × List MemPlace}
    (hf : DataW.trod enc Try.prog w base (fun _ => true) held fuel 22 [v] = some x) : ∃ A len cap, v = .slice A len cap ∧ IsBks w A len cap := by
  rcases Deep.open_slice Try.underlying22 hf with ⟨hcs, _⟩ | ⟨x, l, c, m, n, D, Pl, hcs, _, hl, hm, hmm, _, hi⟩
  · simp at hcs
    exact ⟨_, _, _, hcs, Nat.le_refl _, Nat.zero_le _, fun _ => nilBk, BksAt.nil _ _ _⟩
  · simp at hcs hmm
    subst hmm
    rw [cellsBk.1] at hi
    by_cases h0 : 0 < l
    · obtain ⟨b, off, spot⟩ := x
      obtain ⟨cs0, hc0, _⟩ := hi 0 (by omega)
      obtain ⟨_, hl0, hat0⟩ := World.cells?_some hc0
      have hs0 := hat0 0 (by decide)
      rw [List.getElem?_eq_getElem (show 0 < cs0.length by omega)] at hs0
      have hspot : spot = none := by simpa [Addr.add] using World.cell?_spot hs0
      subst hspot
      have e2 : ∀ b off i, (⟨b, off, none⟩ : Addr).add i = ⟨b, off + i, none⟩ := fun b off i => by unfold Addr.add; split <;> simp_all
      have hlt : b < w.heap.size := by
        have := block_lt_of_cell hs0
        rw [e2, e2] at this
        exact this
      have hB : ∀ i, ∃ B : Bk, i < l → ∀ j u, (bkC B)[j]? = some u → w.cell? ⟨b, off + i * 6 + j, none⟩ = some u := by
        intro i
        by_cases hil : i < l
        · obtain ⟨cs, hc, htr⟩ := hi i (by omega)
          obtain ⟨_, hlc, hat⟩ := World.cells?_some hc
          obtain ⟨B, hB⟩ := open_bk htr
          refine ⟨B, fun _ j u hu => ?_⟩
          have hj : j < 6 := by have := (List.getElem?_eq_some_iff.1 hu).1; simpa [bkC] using this
          have := hat j hj
          rw [hB, hu] at this
          simp only [e2] at this
          exact this
        · exact ⟨nilBk, fun q => absurd q hil⟩
      exact ⟨_, _, _, hcs, hl, hm, fun i => (hB i).choose, fun _ => ⟨b, off, rfl, hlt, fun i hil => (hB i).choose_spec hil⟩⟩
    · obtain rfl : l = 0 := by omega
      exact ⟨_, _, _, hcs, hl, hm, fun _ => nilBk, BksAt.nil _ _ _⟩
theorem open_books {H : Type} {enc : TypeId × Value → H} {w : World} {r : Reach} {b0 base : Nat} {held : Bool} {v : Value} {d : DataW H} {p : List MemPlace} (hv : Value.okWide Try.prog w r b0 22 v)
    (h : DataW.Trod enc Try.prog w base (fun _ => true) held 22 v d p) : ∃ A len cap, v = .slice A len cap ∧ IsBks w A len cap := by
  obtain ⟨a, len, cap, rfl⟩ := okWide_slice Try.underlying22 hv
  obtain ⟨fuel, hf⟩ := h
  exact open_bks (by simpa [Value.cells] using hf)
/-- A list of policies that came in. -/
def PolsAt (w : World) (A : Option Addr) (len : Nat) (P : Nat → Bk) : Prop :=
  0 < len → ∃ b off, A = some ⟨b, off, none⟩ ∧ b < w.heap.size ∧ ∀ i, i < len → w.cell? ⟨b, off + i * 4, none⟩ = some (.int .i64 (P i).k) ∧ w.cell? ⟨b, off + i * 4 + 1, none⟩ = some (.int .i64 (P i).l) ∧ w.cell? ⟨b, off + i * 4 + 2, none⟩ = some (.int .i64 (P i).v) ∧ w.cell? ⟨b, off + i * 4 + 3, none⟩ = some (.int .i64 (P i).b)
def IsPols (w : World) (A : Option Addr) (len cap : Nat) : Prop := len ≤ cap ∧ cap ≤ maxLen ∧ ∃ P, PolsAt w A len P
theorem open_pls {H : Type} {enc : TypeId × Value → H} {w : World} {base fuel : Nat} {held : Bool} {v : Value} {x : DataW H × List MemPlace}
    (hf : DataW.trod enc Try.prog w base (fun _ => true) held fuel 46 [v] = some x) : ∃ A len cap, v = .slice A len cap ∧ IsPols w A len cap := by
  rcases Deep.open_slice Try.underlying46 hf with ⟨hcs, _⟩ | ⟨x, l, c, m, n, D, Pl, hcs, _, hl, hm, hmm, _, hi⟩
  · simp at hcs
    exact ⟨_, _, _, hcs, Nat.le_refl _, Nat.zero_le _, fun _ => nilBk, fun h => absurd h (by omega)⟩
  · simp at hcs hmm
    subst hmm
    rw [cellsBk.2.1] at hi
    by_cases h0 : 0 < l
    · obtain ⟨b, off, spot⟩ := x
      obtain ⟨cs0, hc0, _⟩ := hi 0 (by omega)
      obtain ⟨_, hl0, hat0⟩ := World.cells?_some hc0
      have hs0 := hat0 0 (by decide)
      rw [List.getElem?_eq_getElem (show 0 < cs0.length by omega)] at hs0
      have hspot : spot = none := by simpa [Addr.add] using World.cell?_spot hs0
      subst hspot
      have e2 : ∀ b off i, (⟨b, off, none⟩ : Addr).add i = ⟨b, off + i, none⟩ := fun b off i => by unfold Addr.add; split <;> simp_all
      have hlt : b < w.heap.size := by
        have := block_lt_of_cell hs0
        rw [e2, e2] at this
        exact this
      have hB : ∀ i, ∃ B : Bk, i < l → w.cell? ⟨b, off + i * 4, none⟩ = some (.int .i64 B.k) ∧ w.cell? ⟨b, off + i * 4 + 1, none⟩ = some (.int .i64 B.l) ∧ w.cell? ⟨b, off + i * 4 + 2, none⟩ = some (.int .i64 B.v) ∧ w.cell? ⟨b, off + i * 4 + 3, none⟩ = some (.int .i64 B.b) := by
        intro i
        by_cases hil : i < l
        · obtain ⟨cs, hc, htr⟩ := hi i (by omega)
          obtain ⟨_, hlc, hat⟩ := World.cells?_some hc
          match cs, hlc with
          | [d0, d1, d2, d3], _ =>
            obtain ⟨k, l, v, b', rfl, rfl, rfl, rfl⟩ := open_four htr
            have a0 := hat 0 (by decide)
            have a1 := hat 1 (by decide)
            have a2 := hat 2 (by decide)
            have a3 := hat 3 (by decide)
            simp only [e2] at a0 a1 a2 a3
            exact ⟨⟨true, k, l, v, b', 0⟩, fun _ => ⟨a0, a1, a2, a3⟩⟩
        · exact ⟨nilBk, fun q => absurd q hil⟩
      exact ⟨_, _, _, hcs, hl, hm, fun i => (hB i).choose, fun _ => ⟨b, off, rfl, hlt, fun i hil => (hB i).choose_spec hil⟩⟩
    · obtain rfl : l = 0 := by omega
      exact ⟨_, _, _, hcs, hl, hm, fun _ => nilBk, fun h => absurd h (by omega)⟩
theorem open_pols {H : Type} {enc : TypeId × Value → H} {w : World} {r : Reach} {b0 base : Nat} {held : Bool} {v : Value} {d : DataW H} {p : List MemPlace} (hv : Value.okWide Try.prog w r b0 46 v)
    (h : DataW.Trod enc Try.prog w base (fun _ => true) held 46 v d p) : ∃ A len cap, v = .slice A len cap ∧ IsPols w A len cap := by
  obtain ⟨a, len, cap, rfl⟩ := okWide_slice Try.underlying46 hv
  obtain ⟨fuel, hf⟩ := h
  exact open_pls (by simpa [Value.cells] using hf)
end Go.Proofs.Ytgdcgilhaedbmac
