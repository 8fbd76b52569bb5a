/- Words in memory, words that a call made, and the contract of slices.Clone of words. -/
import Derived.Test.YtbmapjbjpgoibaaSlab0
import Derived.RegionTactic
import Derived.BigRegion
import Derived.ChangeAlike
import Derived.OwnWalk
import Derived.Lib.SliceRun
import Derived.WalkKit
import Derived.ProofKit
namespace Go.Proofs.Ytbmapjbjpgoibaa
open Go.ChangeShapes Go.WideShapes Go.ChangeAt Go.RowKit
set_option linter.unusedVariables false

/-- The slice reads as these words. -/
def Words (w : World) (A : Option Addr) (len : Nat) (ns : List Nat) : Prop :=
  ns.length = len ∧ AllW ns ∧ (0 < len → ∃ b off, A = some ⟨b, off, none⟩ ∧ b < w.heap.size ∧ ∀ i, i < len → w.cell? ⟨b, off + i, none⟩ = some (.int .u64 (ns.getD i 0 : Nat)))
theorem Words.below {w w' : World} {A : Option Addr} {len : Nat} {ns : List Nat} (h : Words w A len ns) (hb : Below w.heap.size w w') : Words w' A len ns := by
  obtain ⟨h1, h2, h3⟩ := h
  refine ⟨h1, h2, fun hl => ?_⟩
  obtain ⟨b, off, rfl, hlt, hc⟩ := h3 hl
  exact ⟨b, off, rfl, Nat.lt_of_lt_of_le hlt hb.size, fun i hi => (hb.cell (p := ⟨b, off + i, none⟩) hlt).trans (hc i hi)⟩

/-- Block g is a row of the call's own whose first len cells are these words. -/
def OwnW (w : World) (g len : Nat) (ns : List Nat) : Prop :=
  ∃ l, Has w g 49 l ∧ len ≤ l.length ∧ ns.length = len ∧ AllW ns ∧ ∀ i, i < len → l[i]? = some (.int .u64 (ns.getD i 0 : Nat))
theorem OwnW.lt {w : World} {g len : Nat} {ns : List Nat} (h : OwnW w g len ns) : g < w.heap.size := by
  obtain ⟨l, hh, _⟩ := h; exact hh.lt
theorem OwnW.cell {w : World} {g len : Nat} {ns : List Nat} (h : OwnW w g len ns) {i : Nat} (hi : i < len) : w.cell? ⟨g, i, none⟩ = some (.int .u64 (ns.getD i 0 : Nat)) := by
  obtain ⟨l, hh, _, _, _, hc⟩ := h; rw [hh.cell]; exact hc i hi
theorem OwnW.loose {w : World} {g len : Nat} {ns : List Nat} (h : OwnW w g len ns) (i : Nat) : w.frozen? ⟨g, i, none⟩ = false := by
  obtain ⟨l, hh, _⟩ := h; exact hh.loose i
theorem OwnW.all {w : World} {g len : Nat} {ns : List Nat} (h : OwnW w g len ns) : AllW ns := by
  obtain ⟨l, _, _, _, ha, _⟩ := h; exact ha
theorem OwnW.len_ {w : World} {g len : Nat} {ns : List Nat} (h : OwnW w g len ns) : ns.length = len := by
  obtain ⟨l, _, _, hn, _, _⟩ := h; exact hn
theorem OwnW.drew {w : World} {g len : Nat} {ns : List Nat} (h : OwnW w g len ns) : OwnW w.drew g len ns := h
theorem OwnW.store {w : World} {g len : Nat} {ns : List Nat} (h : OwnW w g len ns) {i v : Nat} (hi : i < len) (hv : v < 18446744073709551616) : OwnW (w.setCell ⟨g, i, none⟩ (.int .u64 (v : Int))) g len (ns.set i v) := by
  obtain ⟨l, hh, hl, hn, ha, hc⟩ := h
  refine ⟨_, hh.store i _, by simpa using hl, by simpa using hn, ?_, ?_⟩
  · intro x hx
    rcases List.mem_or_eq_of_mem_set hx with hx | rfl
    · exact ha x hx
    · exact hv
  · intro j hj
    rw [List.getElem?_set, List.getD_eq_getElem?_getD, List.getElem?_set]
    by_cases e : i = j
    · subst e; simp [hn, hi, Nat.lt_of_lt_of_le hi hl]
    · rw [if_neg e, if_neg e, hc j hj, List.getD_eq_getElem?_getD]
theorem OwnW.below {w w' : World} {B g len : Nat} {ns : List Nat} (h : OwnW w g len ns) (hb : Below B w w') (hg : g < B) : OwnW w' g len ns := by
  obtain ⟨l, hh, h2⟩ := h
  exact ⟨l, hh.below hb hg, h2⟩
theorem OwnW.words {w : World} {g len : Nat} {ns : List Nat} (h : OwnW w g len ns) : Words w (some ⟨g, 0, none⟩) len ns :=
  ⟨h.len_, h.all, fun _ => ⟨g, 0, rfl, h.lt, fun i hi => by rw [Nat.zero_add]; exact h.cell hi⟩⟩

theorem Try.infoU64 : (Try.prog.info? 49).map (fun i => (i.zero, i.size, i.bytes)) = some (some (.int .u64 0), 1, 8) := by kernel_rfl

/-- A slice that a call made of these words: nil, or a row of its own. -/
def Fresh (B : Nat) (w' : World) (A : Option Addr) (len cap : Nat) (ns : List Nat) : Prop :=
  len ≤ cap ∧ ns.length = len ∧ AllW ns ∧ ((A = none ∧ len = 0) ∨ ∃ g, A = some ⟨g, 0, none⟩ ∧ B ≤ g ∧ OwnW w' g len ns)
theorem Fresh.words {B : Nat} {w' : World} {A : Option Addr} {len cap : Nat} {ns : List Nat} (h : Fresh B w' A len cap ns) : Words w' A len ns := by
  obtain ⟨_, h2, h3, h4⟩ := h
  rcases h4 with ⟨rfl, rfl⟩ | ⟨g, rfl, _, ho⟩
  · exact ⟨h2, h3, fun h => absurd h (by omega)⟩
  · exact ho.words
/-- What Clone tells. -/
def Cloned (len : Nat) (ns : List Nat) (w : World) (e : Ending) (w' : World) : Prop :=
  ∃ A cap, e = .returned (.slice A len cap) ∧ Fresh w.heap.size w' A len cap ns ∧ Below w.heap.size w w'

theorem own_of_row {w : World} {base : Nat} {v : Value} {n : Nat} {ns : List Nat} (h : w.ownsRow base 49 1 v n (ns.map fun (x : Nat) => Value.int .u64 (x : Int))) (ha : AllW ns) (hv : ¬ v = .slice none 0 0) :
    ∃ g cap, v = .slice (some ⟨g, 0, none⟩) n cap ∧ n ≤ cap ∧ base ≤ g ∧ OwnW w g n ns := by
  obtain ⟨h1, h2⟩ := h
  rcases h2 with ⟨h2, _⟩ | ⟨g, cap, cur, rfl, hb, hh, hc, hm, hz, ht⟩
  · exact absurd h2 hv
  · refine ⟨g, cap, rfl, hc, hb, cur.toList, ?_, ?_, by simpa using h1, ha, ?_⟩
    · unfold Has; rw [hh]
    · rw [Array.length_toList, hz]; omega
    · intro i hi
      have h3 : (cur.toList.take (n * 1))[i]? = cur.toList[i]? := by rw [List.getElem?_take, if_pos (by omega)]
      rw [← h3, ht]
      have h4 : i < ns.length := by simp at h1; omega
      rw [List.getElem?_map, List.getElem?_eq_getElem h4, List.getD_eq_getElem?_getD, List.getElem?_eq_getElem h4]
      rfl

theorem Clone_any (A : Option Addr) (len cap : Nat) (ns : List Nat) (w : World) (hl : len ≤ 1000) (hw : Words w A len ns) :
    Calls Try.prog 31 #[.slice A len cap] w (Cloned len ns w) := by
  cases A with
  | none =>
    have h0 : len = 0 := by
      obtain ⟨_, _, h3⟩ := hw
      rcases Nat.eq_zero_or_pos len with h | h
      · exact h
      · obtain ⟨b, off, h', _⟩ := h3 h; cases h'
    subst h0
    have hn := hw.1
    have hall := hw.2.1
    have hq : ∀ W, (binOp .eql 33 (.slice none 0 cap) (.slice none 0 0)).run Try.prog W = .ok (.bool true) W := fun W => Lib.run_eql_slice_nil W _ _ none 0 cap 0 0 Try.underlying33
    go_enter Try.func31, Try.ntmps31
    go_wp2
    go_ret
    exact ⟨none, 0, rfl, ⟨Nat.le_refl _, hn, hall, .inl ⟨rfl, rfl⟩⟩, Below.refl _ _⟩
  | some ad =>
    obtain ⟨i0, hi, hz0, hz1, hz2⟩ := info_parts Try.infoU64
    have HI := Lib.hid (And.intro hi (And.intro hz0 (And.intro hz1 hz2)))
    have hown : (w.alloc (Obj.cells #[] 49)).ownsRow w.heap.size 49 1 (.slice (some ⟨w.heap.size, 0, none⟩) 0 0) 0 [] := World.ownsRow_lit w #[] 0 (Nat.le_refl _) (by unfold maxLen; omega) rfl
    have HO := Lib.hid hown
    have HW := Lib.hid (hw.below ((Below.refl _ _).alloc (Nat.le_refl _) (Obj.cells #[] 49)))
    clear hi hz0 hz1 hz2 hown hw
    have hq : ∀ W, (binOp .eql 33 (.slice (some ad) len cap) (.slice none 0 0)).run Try.prog W = .ok (.bool false) W := fun W => Lib.run_eql_slice_nil W _ _ (some ad) len cap 0 0 Try.underlying33
    go_enter Try.func31, Try.ntmps31
    go_wp2_with (first | (at_builtin; refine wpList_append_own _ rfl _ _ 33 rfl w.heap.size 49 i0 (.int .u64 0) 1 8 Try.underlying33 HI.out.1 HI.out.2.1 HI.out.2.2.1 HI.out.2.2.2 rfl (by decide) _ 0 [] rfl HO.out ad len cap (ns.map fun (x : Nat) => Value.int .u64 (x : Int)) rfl ?c1 ?c2 ?c3 ?c4 ?c5 ?c6 ?_))
    case c1 => simpa using HW.out.1
    case c2 =>
      intro j u hj
      have hjl : j < len := by
        have := (List.getElem?_eq_some_iff.1 hj).1
        have h1 := HW.out.1
        simp at this
        omega
      obtain ⟨b, off, e, hb, hc⟩ := HW.out.2.2 (by omega)
      injection e with e
      subst e
      have h2 := hc j hjl
      rw [List.getElem?_map] at hj
      have hj2 : j < ns.length := by rw [HW.out.1]; exact hjl
      rw [List.getElem?_eq_getElem hj2] at hj
      rw [List.getD_eq_getElem?_getD, List.getElem?_eq_getElem hj2] at h2
      have e2 : (⟨b, off, none⟩ : Addr).add j = ⟨b, off + j, none⟩ := by unfold Addr.add; split <;> simp_all
      rw [e2, h2]
      exact hj
    case c3 => intro u hu; simp at hu; obtain ⟨x, _, rfl⟩ := hu; rfl
    case c4 => unfold maxLen; omega
    case c5 => omega
    case c6 => simp
    intro v' w1 hown' hgrow hnil
    have hv := hnil
    obtain ⟨g, c', rfl, hcc, hbg, ho⟩ := own_of_row hown' HW.out.2.1 hv
    have hbel : Below w.heap.size w w1 := ((Below.refl _ _).alloc (Nat.le_refl _) (Obj.cells #[] 49)).grown hgrow (by simp) (fun k hk => by simp [Value.ownBlock] at hk; omega)
    have R : Hid (Cloned len ns w (.returned (.slice (some ⟨g, 0, none⟩) len c')) w1) := ⟨_, _, rfl, ⟨hcc, HW.out.1, HW.out.2.1, .inr ⟨g, rfl, hbg, ho⟩⟩, hbel⟩
    clear hown' hgrow hnil hv ho hbel
    go_wp2
    go_ret
    exact R.out

theorem at_nat {ns : List Nat} {i : Nat} (h : i < ns.length) : ns.getD i 0 = ns[i] := by rw [List.getD_eq_getElem?_getD, List.getElem?_eq_getElem h]; rfl
theorem Has.words {w : World} {g : Nat} {ns : List Nat} (h : Has w g 49 (wordsV ns)) (ha : AllW ns) : OwnW w g ns.length ns :=
  ⟨_, h, by simp [wordsV], rfl, ha, fun i hi => by rw [wordsV, List.getElem?_map, List.getElem?_eq_getElem hi, at_nat hi]; rfl⟩
end Go.Proofs.Ytbmapjbjpgoibaa
