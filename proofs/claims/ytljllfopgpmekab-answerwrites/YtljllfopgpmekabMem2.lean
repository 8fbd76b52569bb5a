/- Memory that calls change: what is kept beside the blocks that a thing owns; rows of structs. -/
import Derived.Test.YtljllfopgpmekabMem
import Derived.Laws.CopyOwn
import Derived.Deep.Draws
import Derived.WalkSmall
namespace Go.Proofs.Ytljllfopgpmekab
open Go.ChangeShapes Go.WideShapes Go.ChangeAt Go.RowKit
set_option linter.unusedVariables false

/-- Nothing has changed but new memory and the blocks of F. -/
structure Kept (F : Nat → Prop) (w w' : World) : Prop where
  os : w'.os = w.os
  tape : w'.tape = w.tape
  output : w'.output = w.output
  size : w.heap.size ≤ w'.heap.size
  block : ∀ k, k < w.heap.size → ¬ F k → w'.heap[k]? = w.heap[k]?
theorem Kept.refl (F : Nat → Prop) (w : World) : Kept F w w := ⟨rfl, rfl, rfl, Nat.le_refl _, fun _ _ _ => rfl⟩
theorem Kept.trans {F G : Nat → Prop} {a b c : World} (h : Kept F a b) (k : Kept G b c) (hG : ∀ i, G i → F i ∨ a.heap.size ≤ i) : Kept F a c :=
  ⟨k.os.trans h.os, k.tape.trans h.tape, k.output.trans h.output, Nat.le_trans h.size k.size, fun i hi hF =>
    (k.block i (Nat.lt_of_lt_of_le hi h.size) (fun g => (hG i g).elim hF (fun e => absurd hi (by omega)))).trans (h.block i hi hF)⟩
theorem Kept.mono {F G : Nat → Prop} {a b : World} (h : Kept F a b) (hG : ∀ i, i < a.heap.size → F i → G i) : Kept G a b :=
  ⟨h.os, h.tape, h.output, h.size, fun i hi hn => h.block i hi (fun f => hn (hG i hi f))⟩
theorem Kept.setCell {F : Nat → Prop} {a w : World} (h : Kept F a w) {p : Addr} (hp : F p.block ∨ a.heap.size ≤ p.block) (u : Value) : Kept F a (w.setCell p u) :=
  ⟨h.os, h.tape, h.output, by simpa [World.setCell] using h.size, fun k hk hF => by
    rw [Below.heap_setCell w p u k (fun e => hp.elim (fun f => hF (e ▸ f)) (fun f => by omega))]; exact h.block k hk hF⟩
theorem Kept.alloc {F : Nat → Prop} {a w : World} (h : Kept F a w) (o : Obj) : Kept F a (w.alloc o) :=
  ⟨h.os, h.tape, h.output, by have := h.size; simp; omega, fun k hk hF => by rw [Below.heap_alloc w o k (Nat.lt_of_lt_of_le hk h.size)]; exact h.block k hk hF⟩
theorem Kept.drewN {F : Nat → Prop} {a w : World} (h : Kept F a w) (m : Nat) : Kept F a (w.drewN m) := ⟨h.os, h.tape, h.output, h.size, h.block⟩
theorem Kept.drew {F : Nat → Prop} {a w : World} (h : Kept F a w) : Kept F a w.drew := ⟨h.os, h.tape, h.output, h.size, h.block⟩
theorem Kept.of_below {F : Nat → Prop} {a w : World} (h : Below a.heap.size a w) : Kept F a w := ⟨h.os, h.tape, h.output, h.size, fun k hk _ => h.block k hk⟩
theorem Kept.below {F : Nat → Prop} {a w : World} {B : Nat} (h : Kept F a w) (hB : B ≤ a.heap.size) (hF : ∀ k, k < B → ¬ F k) : Below B a w :=
  ⟨h.os, h.tape, h.output, h.size, fun k hk => h.block k (by omega) (hF k hk)⟩
theorem Kept.grown {F : Nat → Prop} {a w w' : World} {row : Option Nat} (h : Kept F a w) (hg : w.grownBy w' row) (hr : ∀ g, row = some g → F g ∨ a.heap.size ≤ g) : Kept F a w' := by
  obtain ⟨h1, h2, h3, h4, h5⟩ := hg
  exact ⟨h1.trans h.os, h2.trans h.tape, h3.trans h.output, Nat.le_trans h.size h4, fun k hk hF =>
    (h5 k (Nat.lt_of_lt_of_le hk h.size) (fun e => (hr k e.symm).elim hF (fun f => by omega))).trans (h.block k hk hF)⟩
theorem Has.kept {F : Nat → Prop} {w w' : World} {g : Nat} {t : TypeId} {l : List Value} (h : Has w g t l) (hk : Kept F w w') (hg : ¬ F g) : Has w' g t l := by
  have := h.lt
  unfold Has at *
  rw [hk.block g this hg]; exact h
theorem Has.grown {w w' : World} {g : Nat} {t : TypeId} {l : List Value} {row : Option Nat} (h : Has w g t l) (hk : w.grownBy w' row) (hg : row ≠ some g) : Has w' g t l := by
  have := h.lt
  unfold Has at *
  rw [hk.block g this (fun e => hg e.symm)]; exact h
theorem Has.drewN {w : World} {g : Nat} {t : TypeId} {l : List Value} (h : Has w g t l) (m : Nat) : Has (w.drewN m) g t l := h
theorem Has.drew {w : World} {g : Nat} {t : TypeId} {l : List Value} (h : Has w g t l) : Has w.drew g t l := h
/-- A row of one's own, as the append law has it. -/
theorem Has.owns {w : World} {g n cap : Nat} {t : TypeId} {xs rest : List Value} (h : Has w g t (xs ++ rest)) (hx : xs.length = n) (hr : n + rest.length = cap) (hm : cap ≤ maxLen) {base : Nat} (hb : base ≤ g) :
    w.ownsRow base t 1 (.slice (some ⟨g, 0, none⟩) n cap) n xs :=
  ⟨by omega, .inr ⟨g, cap, (xs ++ rest).toArray, rfl, hb, h, by omega, hm, by simp; omega, by simp [← hx]⟩⟩
theorem has_of_owns {w : World} {g n cap base : Nat} {t : TypeId} {xs : List Value} (h : w.ownsRow base t 1 (.slice (some ⟨g, 0, none⟩) n cap) n xs) :
    ∃ rest, Has w g t (xs ++ rest) ∧ xs.length = n ∧ n + rest.length = cap := by
  obtain ⟨h1, h2 | ⟨g', cap', cur, e, hbg, hg, hnc, hcm, hcs, htake⟩⟩ := h
  · simp at h2
  · simp only [Value.slice.injEq, Option.some.injEq, Addr.mk.injEq, and_true, true_and] at e
    obtain ⟨rfl, rfl⟩ := e
    have hl : xs.length = n := by omega
    refine ⟨cur.toList.drop n, ?_, hl, by simp; omega⟩
    unfold Has
    rw [hg]
    congr 2
    apply Array.ext'
    rw [Nat.mul_one] at htake
    have := List.take_append_drop n cur.toList
    rw [htake] at this
    simpa using this.symm
end Go.Proofs.Ytljllfopgpmekab
