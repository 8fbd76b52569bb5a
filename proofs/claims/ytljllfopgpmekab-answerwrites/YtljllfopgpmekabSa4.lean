/- The document's examples of answers: live. -/
import Derived.Test.YtljllfopgpmekabSa2
import Derived.Test.YtljllfopgpmekabSa3
-- prune
namespace Go.Proofs.Ytljllfopgpmekab
open Go.ChangeShapes Go.WideShapes Go.ChangeAt Go.RowKit
set_option linter.unusedVariables false

def tdE : Td := ⟨0, true, 258, 2199023255552, 0⟩
def nmE : Nm := ⟨1, ⟨#[107]⟩⟩
def aE : An := ⟨1, 0, [tdE], 0, 0, 0, 0, 0, 0, 0, [nmE]⟩
theorem okE : AnOk aE where
  kind := by decide
  code := by decide
  ver := by decide
  pk := by decide
  pl := by decide
  pw := by decide
  pb := by decide
  now := by decide
  count := by decide
  told := by decide
  names := by decide
  tds := by intro t ht; simp [aE] at ht; subst ht; exact ⟨by decide, by decide, by decide, by decide⟩
  nms := by intro t ht; simp [aE] at ht; subst ht; exact ⟨by decide, by decide⟩
theorem okZ : AnOk zAn where
  kind := by decide
  code := by decide
  ver := by decide
  pk := by decide
  pl := by decide
  pw := by decide
  pb := by decide
  now := by decide
  count := by decide
  told := by decide
  names := by decide
  tds := by intro t ht; cases ht
  nms := by intro t ht; cases ht
theorem lenE : (anB aE).length = 47 := by rw [anB_len okE]; rfl
theorem lenZ : (anB zAn).length = 26 := by rw [anB_len okZ]; rfl
theorem enc_yes {a : An} (h : AnOk a) (h5 : (anB a).length ≤ 512) : encT a = anB a ∧ encC a = 0 := by
  unfold encT encC; rw [if_pos ⟨h, h5⟩, if_pos h, if_pos h5]; exact ⟨rfl, rfl⟩
theorem enc_bad {a : An} (h : ¬ AnOk a) : encT a = [] ∧ encC a = 1 := by
  unfold encT encC; rw [if_neg (fun e => h e.1), if_neg h]; exact ⟨rfl, rfl⟩
theorem enc_big {a : An} (h : AnOk a) (h5 : ¬ (anB a).length ≤ 512) : encT a = [] ∧ encC a = 8 := by
  unfold encT encC; rw [if_neg (fun e => h5 e.2), if_pos h, if_neg h5]; exact ⟨rfl, rfl⟩
theorem dec_back {a : An} (h : AnOk a) (h5 : (anB a).length ≤ 512) : decA (anB a) = a ∧ decC (anB a) = 0 := by
  have e := (may_iff a).2 h
  unfold decA decC
  rw [if_pos ⟨h5, by rw [e]⟩, if_pos ⟨h5, by rw [e]⟩, e]
  exact ⟨rfl, rfl⟩
/-- What is read is one way alone. -/
theorem dec_iff (l : List UInt8) : (decC l = 0 ∧ AnOk (decA l) ∧ anB (decA l) = l ∧ l.length ≤ 512) ∨ (decC l = 3 ∧ decA l = zAn ∧ ¬ ∃ a, IsA l a) := by
  by_cases h : l.length ≤ 512 ∧ anB (rdAn l) = l
  · left
    unfold decA decC
    rw [if_pos h, if_pos h]
    exact ⟨rfl, rdAn_ok l, h.2, h.1⟩
  · right
    refine ⟨?_, ?_, fun ⟨a, ha⟩ => h ⟨ha.2.2, ?_⟩⟩
    · unfold decC; rw [if_neg h]
    · unfold decA; rw [if_neg h]
    · rw [ha.read]; exact ha.2.1
theorem dec_more {a : An} (h : AnOk a) (r : List UInt8) (hr : r ≠ []) : decC (anB a ++ r) = 3 := by
  rcases dec_iff (anB a ++ r) with ⟨_, h1, h2, _⟩ | ⟨h0, _⟩
  · have := anB_apart h1 h [] r (by rw [List.append_nil]; exact h2)
    exact absurd this.2.symm hr
  · exact h0
theorem dec_cut {a : An} (h : AnOk a) (k : Nat) (hk : k < (anB a).length) : decC ((anB a).take k) = 3 := by
  rcases dec_iff ((anB a).take k) with ⟨_, h1, h2, _⟩ | ⟨h0, _⟩
  · have := anB_apart h h1 [] ((anB a).drop k) (by rw [List.append_nil, h2, List.take_append_drop])
    have h3 := congrArg List.length this.2
    simp at h3
    omega
  · exact h0
theorem dec_none : decC [] = 3 := by
  rcases dec_iff [] with ⟨_, h1, h2, _⟩ | ⟨h0, _⟩
  · exact absurd h2 (anB_ne _)
  · exact h0
theorem Decode_s (s : ByteArray) (hs : s.size ≤ maxLen) (w : World) : Calls Try.prog 25 #[.string s] w (DecTold s.data.toList w) := by
  have := Decode_any s.data.toList (by simpa using hs) w
  rw [bA_self] at this
  exact this
/-- .. in letters. -/
theorem Decode_l (s : ByteArray) (hs : s.size ≤ maxLen) (w : World) : Calls Try.prog 25 #[.string s] w fun e w' =>
    ∃ v c a, e = .returned (.tuple #[v, .int .i64 c]) ∧ c = decC s.data.toList ∧ a = decA s.data.toList ∧ IsAn w' v a ∧ Below w.heap.size w w' := by
  refine (Decode_s s hs w).mono ?_
  rintro e w' ⟨v, h1, h2, h3⟩
  exact ⟨v, _, _, h1, rfl, rfl, h2, h3⟩
theorem Encode_l (a : An) (v : Value) (w : World) (ha : IsAn w v a) : Calls Try.prog 21 #[v] w fun e w' =>
    ∃ (s : ByteArray) (c : Int), e = .returned (.tuple #[.string s, .int .i64 c]) ∧ s.data.toList = encT a ∧ c = encC a ∧ Below w.heap.size w w' := by
  refine (Encode_any a v w ha).mono ?_
  rintro e w' ⟨h1, h2⟩
  exact ⟨_, _, h1, by simp, rfl, h2⟩
/-- The first example's lists and block. -/
structure LV (w w1 : World) : Prop where
  x : Has w1 (w.heap.size + 2) 43 (anC aE (some ⟨w.heap.size, 0, none⟩) 1 (some ⟨w.heap.size + 1, 0, none⟩) 1)
  ia : AnAt w1 aE (some ⟨w.heap.size, 0, none⟩) 1 (some ⟨w.heap.size + 1, 0, none⟩) 1
  be : Below w.heap.size w w1
theorem SeqAt.one {α : Type} {C : α → List Value} {m : Nat} {w : World} {g : Nat} {T : TypeId} {x : α} (h : Has w g T (C x)) : SeqAt C m w (some ⟨g, 0, none⟩) [x] := fun _ => ⟨g, 0, rfl, h.lt, fun i y hy j u hu => by
  have hi : i = 0 := by have := (List.getElem?_eq_some_iff.1 hy).1; simp at this; exact this
  subst hi
  have : x = y := by simpa using hy
  subst this
  rw [show (0 : Nat) + 0 * m + j = j by omega, h.cell]
  exact hu⟩
theorem LV.made (w : World) : LV w (((w.alloc (.cells (tdC tdE).toArray 70)).alloc (.cells (nmC nmE).toArray 26)).alloc (.cells (anC aE (some ⟨w.heap.size, 0, none⟩) 1 (some ⟨w.heap.size + 1, 0, none⟩) 1).toArray 43)) := by
  have h0 : Has (w.alloc (.cells (tdC tdE).toArray 70)) w.heap.size 70 (tdC tdE) := Has.made _ _ _
  have h1 := Has.made (w.alloc (.cells (tdC tdE).toArray 70)) 26 (nmC nmE)
  rw [show (w.alloc (.cells (tdC tdE).toArray 70)).heap.size = w.heap.size + 1 by simp] at h1
  have h2 := Has.made ((w.alloc (.cells (tdC tdE).toArray 70)).alloc (.cells (nmC nmE).toArray 26)) 43 (anC aE (some ⟨w.heap.size, 0, none⟩) 1 (some ⟨w.heap.size + 1, 0, none⟩) 1)
  rw [show ((w.alloc (.cells (tdC tdE).toArray 70)).alloc (.cells (nmC nmE).toArray 26)).heap.size = w.heap.size + 2 by simp] at h2
  refine ⟨h2, ⟨Nat.le_refl _, by unfold maxLen; decide, Nat.le_refl _, by unfold maxLen; decide, SeqAt.one ((h0.alloc _).alloc _), SeqAt.one (h1.alloc _), ?_⟩, (((Below.refl _ _).alloc (Nat.le_refl _) _).alloc (by simp) _).alloc (by simp; omega) _⟩
  intro n hn
  simp [aE] at hn
  subst hn
  unfold maxLen
  decide
theorem LV.next {w w1 w2 : World} (h : LV w w1) (hb : Below w1.heap.size w1 w2) : LV w w2 := ⟨h.x.below hb h.x.lt, h.ia.below hb, h.be.trans (hb.mono h.be.size)⟩
end Go.Proofs.Ytljllfopgpmekab
