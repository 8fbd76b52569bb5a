/- How arguments of a law are opened: arrays of integers and of strings by value, slices of integers. -/
import Derived.Test.YtljllfopgpmekabProg
import Derived.WalkKit
import Derived.ProofKit
import Derived.OpenShut
import Derived.ShutString
import Derived.ChangeOld
import Derived.Below
namespace Go.Proofs.Ytljllfopgpmekab
open Go.ChangeShapes Go.WideShapes Go.ChangeAt Go.RowKit
set_option linter.unusedVariables false

section
variable {P : Program} {w : World} {H : Type} {enc : TypeId × Value → H} {r : Reach} {b0 base : Nat} {spare : Nat → Bool} {held : Bool} {t e : TypeId} {v : Value} {d : DataW H} {p : List MemPlace} {n : Nat}

theorem open_arr (ht : P.underlying t = some (.array n e)) (hC : P.cellsOf t = n) (hE : P.cellsOf e = 1) (hv : Value.okWide P w r b0 t v) (h : DataW.Trod enc P w base spare held t v d p) :
    ∃ cs : List Value, v = .agg cs.toArray ∧ cs.length = n ∧ ∀ c ∈ cs, ∃ m x, DataW.trod enc P w base spare held m e [c] = some x := by
  simp only [Value.okWide, ht] at hv
  obtain ⟨cs, rfl, hs, _⟩ := hv
  obtain ⟨fuel, hf⟩ := h
  obtain ⟨xs, m, _, _, hl, hx, hi⟩ := DataW.trod_array ht hf
  refine ⟨cs.toList, by simp, by simpa using hs.trans hC, fun c hc => ?_⟩
  obtain ⟨i, hi1, rfl⟩ := List.getElem_of_mem hc
  have hin : i < n := by have : cs.size = n := hs.trans hC; simp at hi1; omega
  have hi2 := hi i hin
  rw [hE, Nat.mul_one] at hi2
  have e1 : (Value.agg cs).cells.toList = cs.toList := by simp [Value.cells]
  simp only [e1] at hi2
  have e2 : (cs.toList.drop i).take 1 = [cs.toList[i]] := by
    rw [List.drop_eq_getElem_cons hi1]; rfl
  rw [e2] at hi2
  have hix : i < xs.length := by omega
  rw [List.getElem?_eq_getElem hix] at hi2
  exact ⟨m, _, hi2⟩

theorem open_arr_int {k : IntKind} (ht : P.underlying t = some (.array n e)) (he : P.underlying e = some (.int k)) (hC : P.cellsOf t = n) (hE : P.cellsOf e = 1) (hv : Value.okWide P w r b0 t v)
    (h : DataW.Trod enc P w base spare held t v d p) : ∃ l : List Int, v = .agg (l.map (Value.int k)).toArray ∧ l.length = n ∧ ∀ x ∈ l, (Lit.int k x).wf = true := by
  obtain ⟨cs, rfl, hl, hc⟩ := open_arr ht hC hE hv h
  clear h hv
  subst hl
  clear ht hC
  induction cs with
  | nil => exact ⟨[], by simp, rfl, by simp⟩
  | cons c cs ih =>
    obtain ⟨l, e1, e2, e3⟩ := ih (fun c hm => hc c (by simp [hm]))
    obtain ⟨m, x, hx⟩ := hc c (by simp)
    obtain ⟨a, h1, _, h2⟩ := DataW.trod_int he hx
    simp at h1
    subst h1
    refine ⟨a :: l, ?_, by simp [e2], ?_⟩
    · simp at e1; simp [e1]
    · intro y hy
      rcases List.mem_cons.1 hy with rfl | hy
      · exact h2
      · exact e3 y hy

theorem open_arr_str (ht : P.underlying t = some (.array n e)) (he : P.underlying e = some .string) (hC : P.cellsOf t = n) (hE : P.cellsOf e = 1) (hv : Value.okWide P w r b0 t v)
    (h : DataW.Trod enc P w base spare held t v d p) : ∃ l : List ByteArray, v = .agg (l.map Value.string).toArray ∧ l.length = n ∧ ∀ x ∈ l, x.size ≤ maxLen := by
  obtain ⟨cs, rfl, hl, hc⟩ := open_arr ht hC hE hv h
  clear h hv
  subst hl
  clear ht hC
  induction cs with
  | nil => exact ⟨[], by simp, rfl, by simp⟩
  | cons c cs ih =>
    obtain ⟨l, e1, e2, e3⟩ := ih (fun c hm => hc c (by simp [hm]))
    obtain ⟨m, x, hx⟩ := hc c (by simp)
    obtain ⟨a, h1, _, h2⟩ := DataW.trod_string he hx
    simp at h1
    subst h1
    refine ⟨a :: l, ?_, by simp [e2], ?_⟩
    · simp at e1; simp [e1]
    · intro y hy
      rcases List.mem_cons.1 hy with rfl | hy
      · exact h2
      · exact e3 y hy

/-- A slice of integers that came in: nil, or a row of cap cells that hold the numbers zs, of which the first len are its elements. -/
def IsInts (k : IntKind) (w : World) (a : Option Addr) (len cap : Nat) (zs : List Int) : Prop :=
  (a = none ∧ len = 0 ∧ cap = 0 ∧ zs = []) ∨
  ∃ x, a = some x ∧ len ≤ cap ∧ cap ≤ maxLen ∧ zs.length = cap ∧ (∀ i, i < zs.length → w.cell? (x.add i) = some (.int k (zs.getD i 0))) ∧ ∀ n ∈ zs, (Lit.int k n).wf = true

theorem open_slice_int {k : IntKind} (ht : P.underlying t = some (.slice e)) (he : P.underlying e = some (.int k)) (hE : P.cellsOf e = 1) (hv : Value.okWide P w r b0 t v)
    (h : DataW.Trod enc P w base (fun _ => true) held t v d p) : ∃ a len cap zs, v = .slice a len cap ∧ IsInts k w a len cap zs := by
  obtain ⟨a, len, cap, rfl⟩ := okWide_slice ht hv
  obtain ⟨fuel, hf⟩ := h
  rcases open_ints ht he hE hf with ⟨hcs, _⟩ | ⟨x, l, c, zs, hcs, _, hl, hm, hz, _, hcell, hwz⟩
  · simp [Value.cells] at hcs
    obtain ⟨rfl, rfl, rfl⟩ := hcs
    exact ⟨_, _, _, [], rfl, .inl ⟨rfl, rfl, rfl, rfl⟩⟩
  · simp [Value.cells] at hcs
    obtain ⟨rfl, rfl, rfl⟩ := hcs
    exact ⟨_, _, _, zs, rfl, .inr ⟨_, rfl, hl, hm, by simpa using hz, hcell, hwz⟩⟩
end
end Go.Proofs.Ytljllfopgpmekab
