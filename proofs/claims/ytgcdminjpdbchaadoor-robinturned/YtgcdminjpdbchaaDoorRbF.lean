/- Going from a key's home on: pure; the document's home of a key. -/
import Derived.Test.YtgcdminjpdbchaaDoorRb7
namespace Go.Proofs.YtgcdminjpdbchaaDoor
open Go.ChangeShapes Go.WideShapes Go.ChangeAt Go.RowKit
set_option linter.unusedVariables false

/-- Having come e slots from home on: whether the key was met, and what it has. -/
structure FI (n : Nat) (s : List RS) (h : Nat) (key : ByteArray) (e : Nat) (fb : Bool) (z : Int) : Prop where
  go : ∀ e', e' < e → (atS s (wr_ n (h + e'))).u = true ∧ e' ≤ (atS s (wr_ n (h + e'))).d
  fd : (fb = true ∧ ∃ e', e' < e ∧ (atS s (wr_ n (h + e'))).k = key ∧ (atS s (wr_ n (h + e'))).v = z) ∨ (fb = false ∧ z = 0 ∧ ∀ e', e' < e → (atS s (wr_ n (h + e'))).k ≠ key)
section
variable {n : Nat} {s : List RS} {h : Nat} {key : ByteArray} {e : Nat} {fb : Bool} {z : Int}
theorem FI.start (n : Nat) (s : List RS) (h : Nat) (key : ByteArray) : FI n s h key 0 false 0 := ⟨fun _ h => absurd h (by omega), .inr ⟨rfl, rfl, fun _ h => absurd h (by omega)⟩⟩
theorem FI.hit (f : FI n s h key e fb z) (hu : (atS s (wr_ n (h + e))).u = true) (hd : e ≤ (atS s (wr_ n (h + e))).d) (hk : (atS s (wr_ n (h + e))).k = key) : FI n s h key (e + 1) true (atS s (wr_ n (h + e))).v :=
  ⟨fun e' he => by
    by_cases q : e' = e
    · rw [q]; exact ⟨hu, hd⟩
    · exact f.go e' (by omega), .inl ⟨rfl, e, by omega, hk, rfl⟩⟩
theorem FI.miss (f : FI n s h key e fb z) (hu : (atS s (wr_ n (h + e))).u = true) (hd : e ≤ (atS s (wr_ n (h + e))).d) (hk : (atS s (wr_ n (h + e))).k ≠ key) : FI n s h key (e + 1) fb z := by
  refine ⟨fun e' he => ?_, ?_⟩
  · by_cases q : e' = e
    · rw [q]; exact ⟨hu, hd⟩
    · exact f.go e' (by omega)
  · rcases f.fd with ⟨q1, e', q2, q3⟩ | ⟨q1, q2, q3⟩
    · exact .inl ⟨q1, e', by omega, q3⟩
    · refine .inr ⟨q1, q2, fun e' he => ?_⟩
      by_cases q : e' = e
      · rw [q]; exact hk
      · exact q3 e' (by omega)
theorem FI.got {hm : ByteArray → Nat} (f : FI n s h key e fb z) (w : WellT hm n s) (hh : hm key = h) (he : e ≤ n) (hs : e = n ∨ (atS s (wr_ n (h + e))).u = false ∨ (atS s (wr_ n (h + e))).d < e) : GotAt n s key z fb := by
  have hl := w.hl key
  rcases f.fd with ⟨q1, e', q2, q3, q4⟩ | ⟨q1, q2, q3⟩
  · exact .inl ⟨⟨wr_ n (h + e'), wr_lt (by omega) (by omega), (f.go e' q2).1, q3, q4⟩, q1⟩
  · have hn : NotYet hm n s key e := fun e' h' => by rw [hh]; exact ⟨(f.go e' h').1, (f.go e' h').2, q3 e' h'⟩
    have hno : ∀ i, i < n → (atS s i).u = true → (atS s i).k ≠ key := by
      rcases hs with rfl | hs
      · exact w.toHalf.stop_n hn
      · exact w.toHalf.stop hn (by rw [hh]; exact hs)
    exact .inr ⟨fun v ⟨i, a, b, c, _⟩ => hno i a b c, q2, q1⟩
theorem GotAt.same {hm : ByteArray → Nat} {z' : Int} {r r' : Bool} (w : WellT hm n s) (h1 : GotAt n s key z r) (h2 : GotAt n s key z' r') : z = z' ∧ r = r' := by
  rcases h1 with ⟨⟨i, a, b, c, d⟩, e1⟩ | ⟨a, b, c⟩
  · rcases h2 with ⟨⟨i', a', b', c', d'⟩, e2⟩ | ⟨a', _, _⟩
    · have := w.nd i i' a a' b b' (c.trans c'.symm)
      subst this
      exact ⟨d.symm.trans d', e1.trans e2.symm⟩
    · exact absurd ⟨i, a, b, c, d⟩ (a' z)
  · rcases h2 with ⟨q, e2⟩ | ⟨_, b', c'⟩
    · exact absurd q (a z')
    · exact ⟨b.trans b'.symm, c.trans c'.symm⟩
end
/-- The document's home of a key. -/
theorem rHomeK (a : Int) (seed bits : Nat) (k : ByteArray) (w : World) (ea : a = ((sumN seed k.data.toList : Nat) : Int)) (hu : U (sumN seed k.data.toList)) (b1 : 1 ≤ bits) (b8 : bits ≤ 8) (hk : k.size ≤ maxLen) :
    Calls Tryd.prog 23 #[.int .u64 a, .int .i64 (bits : Int)] w fun e w' => e = .returned (.int .i64 ((hmF seed bits k : Nat) : Int)) ∧ w = w' := by
  subst ea
  have := rHome_any (sumN seed k.data.toList) (bits : Int) w hu
  rw [homeI_in _ bits (by omega) (by omega)] at this
  exact this
/-- The cells of a slot in a row. -/
theorem slot_cells {w : World} {B n : Nat} {v : Value} {s : List RS} (h : w.ownsRow B 52 4 v n (s.flatMap slV)) (hl : s.length = n) (h0 : 0 < n) : ∃ g cap, v = .slice (some ⟨g, 0, none⟩) n cap ∧ n ≤ cap ∧ B ≤ g ∧ g < w.heap.size ∧ ∀ i, i < n → w.cell? ⟨g, i * 4, none⟩ = some (.bool (atS s i).u) ∧ w.cell? ⟨g, i * 4 + 1, none⟩ = some (.string (atS s i).k) ∧ w.cell? ⟨g, i * 4 + 2, none⟩ = some (.int .i64 (atS s i).v) ∧ w.cell? ⟨g, i * 4 + 3, none⟩ = some (.int .i64 ((atS s i).d : Int)) := by
  obtain ⟨h1, ⟨_, h3⟩ | ⟨g, cap, cur, h2, h3, h4, h5, h6, h7, h8⟩⟩ := h
  · omega
  · refine ⟨g, cap, h2, h5, h3, ?_, fun i hi => ?_⟩
    · rcases Nat.lt_or_ge g w.heap.size with q | q
      · exact q
      · rw [Array.getElem?_eq_none q] at h4; cases h4
    · have hc : ∀ j, j < n * 4 → w.cell? ⟨g, j, none⟩ = (s.flatMap slV)[j]? := fun j hj => by
        rw [cell_of_row w g j cur 52 (0, 0) h4, ← h8, List.getElem?_take, if_pos hj, Array.getElem?_toList]
      have hg : ∀ c, c < 4 → (s.flatMap slV)[i * 4 + c]? = (slV (atS s i))[c]? := fun c hc => by
        rw [flatMap_get slV 4 (fun _ => rfl) s i c hc, atS_get (by omega)]; rfl
      rw [show i * 4 = i * 4 + 0 by rfl, hc _ (by omega), hc _ (by omega), hc _ (by omega), hc _ (by omega), hg 0 (by decide), hg 1 (by decide), hg 2 (by decide), hg 3 (by decide)]
      exact ⟨rfl, rfl, rfl, rfl⟩
end Go.Proofs.YtgcdminjpdbchaaDoor
