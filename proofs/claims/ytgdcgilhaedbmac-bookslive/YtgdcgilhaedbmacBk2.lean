/- Rows of books of a call's own: slices.Clone. -/
import Derived.Test.YtgdcgilhaedbmacBk1
import Derived.RegionTactic
import Derived.BigRegion
import Derived.ChangeAlike
import Derived.OwnWalk
import Derived.Lib.SliceRun
import Derived.WalkKit
import Derived.ProofKit
-- prune
namespace Go.Proofs.Ytgdcgilhaedbmac
open Go.ChangeShapes Go.WideShapes Go.ChangeAt Go.RowKit
set_option linter.unusedVariables false

/-- Books as cells. -/
def bkv (L : Nat → Bk) : Nat → List Value
  | 0 => []
  | n + 1 => bkv L n ++ bkC (L n)
theorem bkv_len (L : Nat → Bk) (n : Nat) : (bkv L n).length = n * 6 := by
  induction n with
  | zero => rfl
  | succ n ih => simp only [bkv, bkC, List.length_append, ih, List.length_cons, List.length_nil]; omega
theorem bkv_get (L : Nat → Bk) (n i j : Nat) (u : Value) (hi : i < n) (hu : (bkC (L i))[j]? = some u) : (bkv L n)[i * 6 + j]? = some u := by
  have hj : j < 6 := by have := (List.getElem?_eq_some_iff.1 hu).1; simpa [bkC] using this
  induction n with
  | zero => omega
  | succ n ih =>
    simp only [bkv]
    by_cases e : i = n
    · subst e
      rw [List.getElem?_append_right (by rw [bkv_len]; omega), bkv_len, show i * 6 + j - i * 6 = j by omega]
      exact hu
    · rw [List.getElem?_append_left (by rw [bkv_len]; omega)]
      exact ih (by omega)
theorem bkv_any (L : Nat → Bk) (n j : Nat) (u : Value) (h : (bkv L n)[j]? = some u) : j / 6 < n ∧ (bkC (L (j / 6)))[j % 6]? = some u := by
  have hj : j < n * 6 := by have := (List.getElem?_eq_some_iff.1 h).1; rw [bkv_len] at this; exact this
  have hi : j / 6 < n := by omega
  refine ⟨hi, ?_⟩
  have hlt : j % 6 < (bkC (L (j / 6))).length := by simp [bkC]; omega
  have h2 := bkv_get L n (j / 6) (j % 6) _ hi (List.getElem?_eq_getElem hlt)
  rw [show j / 6 * 6 + j % 6 = j by omega, h] at h2
  rw [List.getElem?_eq_getElem hlt, ← h2]
theorem bkv_one (L : Nat → Bk) (n : Nat) : ∀ u ∈ bkv L n, u.oneCell' = true := by
  intro u hu
  obtain ⟨j, hj, e⟩ := List.mem_iff_getElem.1 hu
  have h := (bkv_any L n j u (by rw [List.getElem?_eq_getElem hj, e])).2
  generalize L (j / 6) = B at h
  have : j % 6 = 0 ∨ j % 6 = 1 ∨ j % 6 = 2 ∨ j % 6 = 3 ∨ j % 6 = 4 ∨ j % 6 = 5 := by omega
  rcases this with q | q | q | q | q | q <;> rw [q] at h <;> injection h with h <;> subst h <;> rfl
theorem bkv_congr {L M : Nat → Bk} {n : Nat} (e : ∀ i, i < n → L i = M i) : bkv L n = bkv M n := by
  induction n with
  | zero => rfl
  | succ n ih => simp only [bkv]; rw [ih (fun i hi => e i (by omega)), e n (by omega)]
/-- One book anew. -/
def putB (L : Nat → Bk) (j : Nat) (B : Bk) (i : Nat) : Bk := if i = j then B else L i
/-- A book's cells laid over a list, from a place on. -/
def set6 (l : List Value) (o : Nat) (B : Bk) : List Value := (((((l.set o (.bool B.on)).set (o + 1) (.int .i64 B.k)).set (o + 2) (.int .i64 B.l)).set (o + 3) (.int .i64 B.v)).set (o + 4) (.int .i64 B.b)).set (o + 5) (.int .i64 B.n)
theorem set6_append_left (l r : List Value) (o : Nat) (B : Bk) (h : o + 5 < l.length) : set6 (l ++ r) o B = set6 l o B ++ r := by
  unfold set6
  rw [List.set_append_left _ _ (by omega), List.set_append_left _ _ (by simp; omega), List.set_append_left _ _ (by simp; omega), List.set_append_left _ _ (by simp; omega), List.set_append_left _ _ (by simp; omega), List.set_append_left _ _ (by simp; omega)]
theorem set6_append_right (l : List Value) (B C : Bk) : set6 (l ++ bkC C) l.length B = l ++ bkC B := by
  unfold set6
  rw [List.set_append_right _ _ (by omega), List.set_append_right _ _ (by omega), List.set_append_right _ _ (by omega), List.set_append_right _ _ (by omega), List.set_append_right _ _ (by omega), List.set_append_right _ _ (by omega)]
  rw [show l.length - l.length = 0 by omega, show l.length + 1 - l.length = 1 by omega, show l.length + 2 - l.length = 2 by omega, show l.length + 3 - l.length = 3 by omega, show l.length + 4 - l.length = 4 by omega, show l.length + 5 - l.length = 5 by omega]
  rfl
theorem bkv_put (L : Nat → Bk) (n j : Nat) (B : Bk) (h : j < n) : set6 (bkv L n) (j * 6) B = bkv (putB L j B) n := by
  induction n with
  | zero => omega
  | succ n ih =>
    simp only [bkv]
    by_cases e : j = n
    · subst e
      have := set6_append_right (bkv L j) B (L j)
      rw [bkv_len] at this
      rw [this, bkv_congr (L := L) (M := putB L j B) (fun i hi => by unfold putB; rw [if_neg (by omega)])]
      unfold putB
      rw [if_pos rfl]
    · rw [set6_append_left _ _ _ _ (by rw [bkv_len]; omega), ih (by omega)]
      congr 1
      unfold putB
      rw [if_neg (by omega)]
/-- Books of a call's own, as they lie. -/
def OwnK (B : Nat) (w : World) (v : Value) (n : Nat) (L : Nat → Bk) : Prop := w.ownsRow B 43 6 v n (bkv L n)
theorem OwnK.at_ {B : Nat} {w : World} {v : Value} {n : Nat} {L : Nat → Bk} (h : OwnK B w v n L) : ∃ A cap, v = .slice A n cap ∧ n ≤ cap ∧ cap ≤ maxLen ∧ BksAt w A n L := by
  obtain ⟨h1, ⟨h2, h3⟩ | ⟨gb, cap, cur, h2, h3, h4, h5, h6, h7, h8⟩⟩ := h
  · subst h3; exact ⟨none, 0, h2, Nat.le_refl _, Nat.zero_le _, BksAt.nil _ _ _⟩
  · refine ⟨_, cap, h2, h5, h6, fun h0 => ⟨gb, 0, rfl, ?_, fun i hi j u hu => ?_⟩⟩
    · rcases Nat.lt_or_ge gb w.heap.size with q | q
      · exact q
      · rw [Array.getElem?_eq_none q] at h4; cases h4
    · have hj : j < 6 := by have := (List.getElem?_eq_some_iff.1 hu).1; simpa [bkC] using this
      have hc : ∀ j, j < n * 6 → w.cell? ⟨gb, j, none⟩ = (bkv L n)[j]? := fun j hj => by
        rw [cell_of_row w gb j cur 43 (0, 0) h4, ← h8, List.getElem?_take, if_pos hj, Array.getElem?_toList]
      rw [Nat.zero_add, hc _ (by omega)]
      exact bkv_get L n i j u hi hu
/-- The block, where there is a book. -/
theorem OwnK.has {B : Nat} {w : World} {v : Value} {n : Nat} {L : Nat → Bk} (h : OwnK B w v n L) (h0 : 0 < n) : ∃ gb cap rest, v = .slice (some ⟨gb, 0, none⟩) n cap ∧ B ≤ gb ∧ Has w gb 43 (bkv L n ++ rest) := by
  obtain ⟨h1, ⟨h2, h3⟩ | ⟨gb, cap, cur, h2, h3, h4, h5, h6, h7, h8⟩⟩ := h
  · omega
  · refine ⟨gb, cap, cur.toList.drop (n * 6), h2, h3, ?_⟩
    unfold Has
    rw [h4]
    congr 2
    apply Array.ext'
    have := List.take_append_drop (n * 6) cur.toList
    rw [h8] at this
    simpa using this.symm
theorem has_bks {w : World} {gb n : Nat} {L : Nat → Bk} {rest : List Value} (h : Has w gb 43 (bkv L n ++ rest)) : BksAt w (some ⟨gb, 0, none⟩) n L := fun h0 => ⟨gb, 0, rfl, h.lt, fun i hi j u hu => by
  have hj : j < 6 := by have := (List.getElem?_eq_some_iff.1 hu).1; simpa [bkC] using this
  rw [Nat.zero_add, h.cell, List.getElem?_append_left (by rw [bkv_len]; omega)]
  exact bkv_get L n i j u hi hu⟩
theorem has_put {w : World} {gb n j : Nat} {L : Nat → Bk} {B : Bk} {rest : List Value} (h : Has w gb 43 (set6 (bkv L n ++ rest) (j * 6) B)) (hj : j < n) : Has w gb 43 (bkv (putB L j B) n ++ rest) := by
  rw [set6_append_left _ _ _ _ (by rw [bkv_len]; omega), bkv_put L n j B hj] at h
  exact h
theorem infoK : (Try.prog.info? 43).map (fun i => (i.zero, i.size, i.bytes)) = some (some (.agg #[.bool false, .int .i64 0, .int .i64 0, .int .i64 0, .int .i64 0, .int .i64 0]), 6, 48) := by kernel_rfl
/-- What Clone tells. -/
def ClonedK (n : Nat) (L : Nat → Bk) (w : World) (e : Ending) (w' : World) : Prop := ∃ v, e = .returned v ∧ OwnK w.heap.size w' v n L ∧ Below w.heap.size w w'
theorem Clone_any (A : Option Addr) (n c : Nat) (L : Nat → Bk) (w : World) (hl : n ≤ 1000) (hw : BksAt w A n L) :
    Calls Try.prog 28 #[.slice A n c] w (ClonedK n L w) := by
  cases A with
  | none =>
    have h0 : n = 0 := by
      rcases Nat.eq_zero_or_pos n with h | h
      · exact h
      · obtain ⟨b, off, h', _⟩ := hw h; cases h'
    subst h0
    have hq : ∀ W, (binOp .eql 22 (.slice none 0 c) (.slice none 0 0)).run Try.prog W = .ok (.bool true) W := fun W => Lib.run_eql_slice_nil W _ _ none 0 c 0 0 Try.underlying22
    go_enter Try.func28, Try.ntmps28
    go_wp2
    go_ret
    exact ⟨_, rfl, ⟨rfl, .inl ⟨rfl, rfl⟩⟩, Below.refl _ _⟩
  | some ad =>
    obtain ⟨i0, hi, hz0, hz1, hz2⟩ := info_parts infoK
    have HI := Lib.hid (And.intro hi (And.intro hz0 (And.intro hz1 hz2)))
    have hown : (w.alloc (Obj.cells #[] 43)).ownsRow w.heap.size 43 6 (.slice (some ⟨w.heap.size, 0, none⟩) 0 0) 0 [] := World.ownsRow_lit w #[] 0 (Nat.le_refl _) (by unfold maxLen; omega) rfl
    have HO := Lib.hid hown
    have HW := Lib.hid (hw.below ((Below.refl _ _).alloc (Nat.le_refl _) (Obj.cells #[] 43)))
    clear hi hz0 hz1 hz2 hown hw
    have hq : ∀ W, (binOp .eql 22 (.slice (some ad) n c) (.slice none 0 0)).run Try.prog W = .ok (.bool false) W := fun W => Lib.run_eql_slice_nil W _ _ (some ad) n c 0 0 Try.underlying22
    go_enter Try.func28, Try.ntmps28
    go_wp2_with (first | (at_builtin; refine wpList_append_own _ rfl _ _ 22 rfl w.heap.size 43 i0 (.agg #[.bool false, .int .i64 0, .int .i64 0, .int .i64 0, .int .i64 0, .int .i64 0]) 6 48 Try.underlying22 HI.out.1 HI.out.2.1 HI.out.2.2.1 HI.out.2.2.2 rfl (by decide) _ 0 [] rfl HO.out ad n c (bkv L n) rfl ?c1 ?c2 ?c3 ?c4 ?c5 ?c6 ?_))
    case c1 => exact bkv_len L n
    case c2 =>
      intro j u hj
      obtain ⟨hi, h⟩ := bkv_any L n j u hj
      obtain ⟨b, off, e, hb, hc⟩ := HW.out (by omega)
      injection e with e
      subst e
      have e2 : (⟨b, off, none⟩ : Addr).add j = ⟨b, off + j, none⟩ := by unfold Addr.add; split <;> simp_all
      have := hc (j / 6) hi (j % 6) u h
      rw [show off + j / 6 * 6 + j % 6 = off + j by omega] at this
      rw [e2]; exact this
    case c3 => exact bkv_one L n
    case c4 => unfold maxLen; omega
    case c5 => omega
    case c6 => simp
    intro v' w1 hown' hgrow hnil
    have hbel : Below w.heap.size w w1 := ((Below.refl _ _).alloc (Nat.le_refl _) (Obj.cells #[] 43)).grown hgrow (by simp) (fun k hk => by simp [Value.ownBlock] at hk; omega)
    have R := Lib.hid (show ClonedK n L w (.returned v') w1 from ⟨v', rfl, by unfold OwnK; simpa using hown', hbel⟩)
    clear hown' hgrow hnil hbel
    go_wp2
    go_ret
    exact R.out
end Go.Proofs.Ytgdcgilhaedbmac
