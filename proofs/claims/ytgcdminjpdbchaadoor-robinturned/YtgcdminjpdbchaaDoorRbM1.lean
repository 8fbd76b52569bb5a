/- The document's map in memory: where a key belongs; Get. -/
import Derived.Test.YtgcdminjpdbchaaDoorRbM0
import Derived.Test.YtgcdminjpdbchaaDoorPr0
import Derived.Test.YtgcdminjpdbchaaDoorRb0
import Derived.BigQuiet
import Derived.Deep.DeepCutAuto
namespace Go.Proofs.YtgcdminjpdbchaaDoor
open Go.ChangeShapes Go.WideShapes Go.ChangeAt Go.RowKit
set_option linter.unusedVariables false

theorem less_yes {a b : ByteArray} (h : kl a b) : Op.bytesLess a.toList b.toList = true := by
  rw [Go.Proofs.bytesLess_eq]
  rw [Lib.toList_data, Lib.toList_data]
  exact decide_eq_true h
theorem less_no {a b : ByteArray} (h : ¬ kl a b) : Op.bytesLess a.toList b.toList = false := by
  rw [Go.Proofs.bytesLess_eq]
  rw [Lib.toList_data, Lib.toList_data]
  exact decide_eq_false h
/-- The document's map that lies there. -/
structure Mp (B : Nat) (w : World) (bM : Nat) (v : Value) (l : List Pr) (most : Nat) : Prop where
  h : Has w bM 39 [v, .int .i64 (most : Int)]
  o : OwnPr B 70 w v l
theorem Mp.kept {F : Nat → Prop} {B : Nat} {w w' : World} {bM : Nat} {v : Value} {l : List Pr} {most : Nat} (h : Mp B w bM v l most) (hk : Kept F w w') (h1 : ¬ F bM) (h2 : ∀ b, v.ownBlock = some b → ¬ F b) : Mp B w' bM v l most := ⟨h.h.kept hk h1, h.o.kept hk h2⟩
theorem Mp.below {B : Nat} {w w' : World} {bM : Nat} {v : Value} {l : List Pr} {most : Nat} (h : Mp B w bM v l most) (hb : Below w.heap.size w w') : Mp B w' bM v l most := h.kept (Kept.of_below (F := fun _ => False) hb) (fun q => q) (fun _ _ q => q)
theorem Mp.drewN {B : Nat} {w : World} {bM : Nat} {v : Value} {l : List Pr} {most : Nat} (h : Mp B w bM v l most) (m : Nat) : Mp B (w.drewN m) bM v l most := h.below (below_drewN (Below.refl _ _) m)
def IsAt (l : List Pr) (k : ByteArray) (i : Nat) (b : Bool) : Prop := (b = true ∧ ∃ p, l[i]? = some p ∧ p.1 = k) ∨ (b = false ∧ ∀ p, l[i]? = some p → p.1 ≠ k)
def PlacedK (l : List Pr) (k : ByteArray) (w : World) (e : Ending) (w' : World) : Prop := ∃ (i : Nat) (b : Bool), e = .returned (.tuple #[.int .i64 (i : Int), .bool b]) ∧ (∃ m, w' = w.drewN m) ∧ Place l k i ∧ IsAt l k i b
theorem take_lo {l : List Pr} {k : ByteArray} {i : Nat} (h : ∀ p ∈ l.take i, kl p.1 k) {p : Pr} (hp : l[i]? = some p) (hk : kl p.1 k) : ∀ p ∈ l.take (i + 1), kl p.1 k := by
  intro q hq
  obtain ⟨hlt, e⟩ := List.getElem?_eq_some_iff.1 hp
  rw [List.take_add_one, hp] at hq
  rcases List.mem_append.1 hq with hq | hq
  · exact h q hq
  · simp at hq; rw [hq]; exact hk
set_option maxRecDepth 100000 in
theorem place_any (B : Nat) (w : World) (bM : Nat) (v : Value) (l : List Pr) (most : Nat) (k : ByteArray) (hl : l.length ≤ 1000) (h : Mp B w bM v l most) : Calls Tryd.prog 37 #[.pointer (some ⟨bM, 0, none⟩), .string k] w (PlacedK l k w) := by
  have c0 := h.h.cell 0
  simp at c0
  obtain ⟨A, cap, rfl, hc, hm, hA⟩ := h.o.at_
  have HA := Lib.hid hA
  unfold maxLen at hm
  obtain ⟨n, hn⟩ : ∃ n, l.length = n := ⟨_, rfl⟩
  rw [hn] at c0 hl hc
  have HN := Lib.hid hn
  clear h hA hn
  go_enter Tryd.func37, Tryd.ntmps37
  go_wp2_with fail
  go_loop [6] (fun i => ∃ j : Nat, j ≤ n ∧ i = .int .i64 (j : Int) ∧ Hid (∀ p ∈ l.take j, kl p.1 k)) (fun i => n - (intOf i).toNat)
  case atStart => exact ⟨0, Nat.zero_le _, rfl, fun p hp => by simp at hp⟩
  case round =>
    obtain ⟨j, hj, rfl, HI⟩ := hrel
    by_cases hlt : j < n
    · have hlen := HN.out
      obtain ⟨b, off, rfl, hb, hcell⟩ := HA.out (by omega)
      obtain ⟨p, hp⟩ : ∃ p, l[j]? = some p := ⟨_, List.getElem?_eq_getElem (show j < l.length by omega)⟩
      have x1 := (hcell j p hp).1
      have HP := Lib.hid hp
      clear hcell hp hlen
      by_cases hk : kl p.1 k
      · have y1 := less_yes hk
        have HK := Lib.hid hk
        clear hk
        go_wp2_with fail
        go_round
        case rel => exact ⟨j + 1, by omega, by go_num, take_lo HI.out HP.out HK.out⟩
        case measure => simp [intOf]; omega
      · have y1 := less_no hk
        have HK := Lib.hid (show Place l k j from ⟨by rw [HN.out]; exact hj, HI.out, fun q hq => by rw [HP.out] at hq; rw [← Option.some.inj hq]; exact hk⟩)
        clear hk
        by_cases he : p.1 = k
        · have HE := Lib.hid he
          have z1 : (p.1.toList == k.toList) = true := by rw [he]; exact beq_self_eq_true _
          clear he
          go_wp2_with fail
          go_quiet (fail)
          go_wp2
          go_ret2
          exact ⟨j, true, rfl, ⟨_, rfl⟩, HK.out, .inl ⟨rfl, p, HP.out, HE.out⟩⟩
        · have HE := Lib.hid he
          have z1 := str_ne he
          clear he
          go_wp2_with fail
          go_quiet (fail)
          go_wp2
          go_ret2
          exact ⟨j, false, rfl, ⟨_, rfl⟩, HK.out, .inr ⟨rfl, fun q hq => by rw [HP.out] at hq; rw [← Option.some.inj hq]; exact HE.out⟩⟩
    · obtain rfl : j = n := by omega
      have HK := Lib.hid (show Place l k j from ⟨by rw [HN.out]; exact hj, HI.out, fun q hq => by rw [List.getElem?_eq_none (by rw [HN.out]; exact Nat.le_refl _)] at hq; cases hq⟩)
      have HE := Lib.hid (show ∀ q, l[j]? = some q → q.1 ≠ k from fun q hq => by rw [List.getElem?_eq_none (by rw [HN.out]; exact Nat.le_refl _)] at hq; cases hq)
      go_wp2_with fail
      go_quiet (fail)
      go_wp2
      go_ret2
      exact ⟨j, false, rfl, ⟨_, rfl⟩, HK.out, .inr ⟨rfl, HE.out⟩⟩
end Go.Proofs.YtgcdminjpdbchaaDoor
