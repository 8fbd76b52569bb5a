/- A list of strings that came in, opened to its cells. -/
import Derived.Test.YtgcdminjpdbchaaDoorMem
import Derived.Test.YtgcdminjpdbchaaDoorOpen
import Derived.Deep.Slices
import Derived.ChangeSame
namespace Go.Proofs.YtgcdminjpdbchaaDoor
open Go.ChangeShapes Go.WideShapes Go.ChangeAt Go.RowKit
set_option linter.unusedVariables false

def StrsAt (w : World) (A : Option Addr) (len cap : Nat) (L : Nat → ByteArray) : Prop :=
  len ≤ cap ∧ cap ≤ maxLen ∧ (0 < len → ∃ b off, A = some ⟨b, off, none⟩ ∧ b < w.heap.size ∧ ∀ i, i < len → w.cell? ⟨b, off + i, none⟩ = some (.string (L i)) ∧ (L i).size ≤ maxLen)
def IsStrs (w : World) (A : Option Addr) (len cap : Nat) : Prop := ∃ L, StrsAt w A len cap L
theorem StrsAt.below {w w' : World} {A : Option Addr} {len cap : Nat} {L : Nat → ByteArray} (h : StrsAt w A len cap L) (hb : Below w.heap.size w w') : StrsAt w' A len cap L := by
  obtain ⟨h1, h2, h3⟩ := h
  refine ⟨h1, h2, fun h0 => ?_⟩
  obtain ⟨b, off, e, hlt, hall⟩ := h3 h0
  exact ⟨b, off, e, Nat.lt_of_lt_of_le hlt hb.size, fun i hi => ⟨(hb.cell (p := ⟨b, _, none⟩) hlt).trans (hall i hi).1, (hall i hi).2⟩⟩
theorem isStrs_of {w : World} {A : Option Addr} {len cap : Nat} (h1 : len ≤ cap) (h2 : cap ≤ maxLen) (h3 : 0 < len → ∃ b off, A = some ⟨b, off, none⟩ ∧ b < w.heap.size ∧ ∀ i, i < len → ∃ s : ByteArray, w.cell? ⟨b, off + i, none⟩ = some (.string s) ∧ s.size ≤ maxLen) : IsStrs w A len cap := by
  rcases Nat.eq_zero_or_pos len with e | hp
  · exact ⟨fun _ => ByteArray.empty, h1, h2, fun h => absurd h (by omega)⟩
  · obtain ⟨b, off, e, hlt, hall⟩ := h3 hp
    refine ⟨fun i => if h : i < len then Classical.choose (hall i h) else ByteArray.empty, h1, h2, fun _ => ⟨b, off, e, hlt, fun i hi => ?_⟩⟩
    dsimp only
    rw [dif_pos hi]
    exact Classical.choose_spec (hall i hi)
theorem cellsStr : Tryd.prog.cellsOf 9 = 1 := by kernel_rfl
theorem open_strs {H : Type} {enc : TypeId × Value → H} {w : World} {r : Reach} {b0 base : Nat} {held : Bool} {v : Value} {d : DataW H} {p : List MemPlace} (hv : Value.okWide Tryd.prog w r b0 41 v)
    (h : DataW.Trod enc Tryd.prog w base (fun _ => true) held 41 v d p) : ∃ a len cap, v = .slice a len cap ∧ IsStrs w a len cap := by
  obtain ⟨a, len, cap, rfl⟩ := okWide_slice Tryd.underlying41 hv
  obtain ⟨fuel, hf⟩ := h
  rcases Deep.open_slice Tryd.underlying41 hf with ⟨hcs, _⟩ | ⟨x, l, c, m, n, D, Pl, hcs, _, hl, hm, hmm, _, hi⟩
  · simp [Value.cells] at hcs
    obtain ⟨rfl, rfl, rfl⟩ := hcs
    exact ⟨_, _, _, rfl, isStrs_of (Nat.le_refl _) (Nat.zero_le _) fun h => absurd h (by omega)⟩
  · simp [Value.cells] at hcs
    obtain ⟨rfl, rfl, rfl⟩ := hcs
    simp at hmm
    subst hmm
    rw [cellsStr] at hi
    refine ⟨_, _, _, rfl, isStrs_of hl hm fun h0 => ?_⟩
    obtain ⟨b, off, spot⟩ := x
    obtain ⟨cs0, hc0, _⟩ := hi 0 (by omega)
    obtain ⟨_, hl0, hat0⟩ := World.cells?_some hc0
    have hs0 := hat0 0 (by decide)
    rw [List.getElem?_eq_getElem (show 0 < cs0.length by omega)] at hs0
    have hspot : spot = none := by simpa [Addr.add] using World.cell?_spot hs0
    subst hspot
    have e2 : ∀ b off i, (⟨b, off, none⟩ : Addr).add i = ⟨b, off + i, none⟩ := fun b off i => by unfold Addr.add; split <;> simp_all
    have hlt : b < w.heap.size := by
      have := block_lt_of_cell hs0
      rw [e2, e2] at this
      exact this
    refine ⟨b, off, rfl, hlt, fun i hil => ?_⟩
    obtain ⟨cs, hc, htr⟩ := hi i (by omega)
    obtain ⟨_, hlc, hat⟩ := World.cells?_some hc
    match cs, hlc with
    | [v0], _ =>
      obtain ⟨z1, r1, _, f1⟩ := DataW.trod_string Tryd.underlying9 htr
      simp at r1
      subst r1
      have a0 := hat 0 (by decide)
      simp only [e2] at a0
      exact ⟨z1, by simpa using a0, f1⟩
/-- The first n, one behind the other. -/
def catS (L : Nat → ByteArray) : Nat → ByteArray
  | 0 => ⟨#[]⟩
  | n + 1 => catS L n ++ L n
theorem catS_size (L : Nat → ByteArray) (n : Nat) : (catS L (n + 1)).size = (catS L n).size + (L n).size := by simp [catS, ByteArray.size_append]
theorem catS_le (L : Nat → ByteArray) (m : Nat) : ∀ n, m ≤ n → (catS L m).size ≤ (catS L n).size
  | 0, h => by obtain rfl : m = 0 := by omega
               exact Nat.le_refl _
  | n + 1, h => by
    by_cases e : m = n + 1
    · rw [e]; exact Nat.le_refl _
    · have := catS_le L m n (by omega)
      rw [catS_size]; omega
theorem catS_most (L : Nat → ByteArray) (k : Nat) : ∀ n, (∀ i, i < n → (L i).size ≤ k) → (catS L n).size ≤ n * k
  | 0, _ => by show (0 : Nat) ≤ 0 * k; omega
  | n + 1, h => by
    have h1 := catS_most L k n (fun i hi => h i (by omega))
    have h2 := h n (by omega)
    rw [catS_size, Nat.add_mul]; omega
end Go.Proofs.YtgcdminjpdbchaaDoor
