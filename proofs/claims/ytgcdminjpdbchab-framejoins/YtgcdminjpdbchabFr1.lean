/- A Reader in memory; what is done with a byte of a text, and of what is passed over. -/
import Derived.Test.YtgcdminjpdbchabFr0
import Derived.Test.YtgcdminjpdbchabOwn1
import Derived.Test.YtgcdminjpdbchabPr0
import Derived.Test.YtgcdminjpdbchabNums5
import Derived.Laws.IdiomStrings
import Derived.Laws.EntriesVeiled
namespace Go.Proofs.Ytgcdminjpdbchab
open Go.ChangeShapes Go.WideShapes Go.ChangeAt Go.RowKit
set_option linter.unusedVariables false

theorem fadd {w w' : World} {g : Nat} {t : TypeId} {l : List Value} (h : Has w g t l) (hb : Below w.heap.size w w') : Has w' g t l := h.below hb h.lt
def bV (k : List UInt8) : List Value := k.map fun b => .int .u8 (b.toNat : Int)
theorem bV_len (k : List UInt8) : (bV k).length = k.length := by simp [bV]
theorem bV_snoc (k : List UInt8) (b : UInt8) : bV (k ++ [b]) = bV k ++ [.int .u8 (b.toNat : Int)] := by simp [bV]
/-- What is done next, as a value. -/
def nx (m : Nat) : Value := if m = 0 then .func (.func 15) #[] #[] else if m = 1 then .func (.func 20) #[] #[] else .func (.func 21) #[] #[]
/-- string(b) of bytes that stand somewhere. -/
theorem bytes_back (w : World) (g off cap : Nat) (l : List UInt8) (n : Nat) (hn : l.length = n) (h : ∀ j u, l[j]? = some u → w.cell? ⟨g, off + j, none⟩ = some (.int .u8 (u.toNat : Int))) :
    (convert 45 9 (.slice (some ⟨g, off, none⟩) n cap)).run Try.prog w = .ok (.string ⟨l.toArray⟩) w := by
  subst hn
  refine run_convert_bytes_back (P := Try.prog) w 45 9 5 ⟨g, off, none⟩ cap l Try.underlying45 Try.underlying5 Try.underlying9 ?_
  intro j hj
  have e : (⟨g, off, none⟩ : Addr).add j = ⟨g, off + j, none⟩ := by unfold Addr.add; split <;> simp_all
  rw [e]
  exact h j _ (List.getElem?_eq_getElem hj)
/-- A Reader that lies there, with what it was a while ago. -/
structure RdX (w0 : World) (r : Nat) (v0 : Value) (a : Value) (x : Int) (f : Value) (v : Value) (k : List UInt8) (w : World) : Prop where
  h : Has w r 47 [a, .int .i64 x, f]
  o : w.ownsRow 0 5 1 v k.length (bV k)
  nl : v = .slice none 0 0 ↔ k = []
  fr : ∀ g, v.ownBlock = some g → v0.ownBlock = some g ∨ w0.heap.size ≤ g
  kp : Kept (fun b => b = r ∨ v0.ownBlock = some b) w0 w
  rl : r < w0.heap.size
section
variable {w0 w w' : World} {r : Nat} {v0 a : Value} {x : Int} {f v : Value} {k : List UInt8}
theorem RdX.step (h : RdX w0 r v0 a x f v k w) (hb : Below w.heap.size w w') : RdX w0 r v0 a x f v k w' :=
  ⟨fadd h.h hb, ownsRow_kept2 h.o (Kept.of_below (F := fun _ => False) hb) (fun _ _ q => q), h.nl, h.fr, h.kp.trans (Kept.of_below (F := fun _ => False) hb) (fun _ q => q.elim), h.rl⟩
theorem RdX.alloc (h : RdX w0 r v0 a x f v k w) (o : Obj) : RdX w0 r v0 a x f v k (w.alloc o) := h.step ((Below.refl _ _).alloc (Nat.le_refl _) o)
theorem RdX.drew (h : RdX w0 r v0 a x f v k w) : RdX w0 r v0 a x f v k w.drew := h.step (Below.refl _ _).drew
/-- Into the Reader's own block. -/
theorem RdX.put (h : RdX w0 r v0 a x f v k w) (i : Nat) (u : Value) {a' f' : Value} {x' : Int} (e : [a, .int .i64 x, f].set i u = [a', .int .i64 x', f']) : RdX w0 r v0 a' x' f' v k (w.setCell ⟨r, i, none⟩ u) := by
  have q1 := h.rl
  refine ⟨by rw [← e]; exact h.h.store i u, ?_, h.nl, h.fr, h.kp.setCell (p := ⟨r, i, none⟩) (.inl (.inl rfl)) u, h.rl⟩
  exact ownsRow_kept2 h.o ((Kept.refl (fun b => b = r) w).setCell (p := ⟨r, i, none⟩) (.inl rfl) u) (fun b hb e2 => owns_ne h.o hb h.h (by decide) e2.symm)
theorem RdX.put0 (h : RdX w0 r v0 a x f v k w) (u : Value) : RdX w0 r v0 u x f v k (w.setCell ⟨r, 0, none⟩ u) := h.put 0 u rfl
theorem RdX.put1 (h : RdX w0 r v0 a x f v k w) (y : Int) : RdX w0 r v0 a y f v k (w.setCell ⟨r, 1, none⟩ (.int .i64 y)) := h.put 1 _ rfl
theorem RdX.put2 (h : RdX w0 r v0 a x f v k w) (u : Value) : RdX w0 r v0 a x u v k (w.setCell ⟨r, 2, none⟩ u) := h.put 2 u rfl
/-- Into a block of another kind. -/
theorem RdX.far (h : RdX w0 r v0 a x f v k w) {H : Nat} {p : List Value} (hr : Has w H 37 p) (hH : w0.heap.size ≤ H) (i : Nat) (u : Value) : RdX w0 r v0 a x f v k (w.setCell ⟨H, i, none⟩ u) := by
  have q1 := h.rl
  refine ⟨h.h.apart (p := ⟨H, i, none⟩) (show r ≠ H by omega) u, ?_, h.nl, h.fr, h.kp.setCell (p := ⟨H, i, none⟩) (.inr hH) u, h.rl⟩
  exact ownsRow_kept2 h.o ((Kept.refl (fun b => b = H) w).setCell (p := ⟨H, i, none⟩) (.inl rfl) u) (fun b hb e2 => owns_ne h.o hb hr (by decide) e2.symm)
/-- With nothing kept. -/
theorem RdX.bare (h : RdX w0 r v0 a x f v k w) : RdX w0 r v0 a x f (.slice none 0 0) [] w :=
  ⟨h.h, ⟨rfl, .inl ⟨rfl, rfl⟩⟩, by simp, fun g hg => by simp [Value.ownBlock] at hg, h.kp, h.rl⟩
theorem RdX.grown (h : RdX w0 r v0 a x f v k w) {v' : Value} {k' : List UInt8} (hk : Kept (fun b => v.ownBlock = some b) w w') (ho : Own1 0 5 w' v' (bV k')) (hf : ∀ g, v'.ownBlock = some g → v.ownBlock = some g ∨ w.heap.size ≤ g) : RdX w0 r v0 a x f v' k' w' := by
  have e : k'.length = (bV k').length := (bV_len k').symm
  refine ⟨h.h.kept hk (fun q => owns_ne h.o q h.h (by decide) rfl), by rw [e]; exact ho.1, ho.2.trans (by simp [bV]), fun g hg => ?_, h.kp.trans hk (fun b q => (h.fr b q).imp .inr id), h.rl⟩
  rcases hf g hg with q | q
  · exact h.fr g q
  · exact .inr (Nat.le_trans h.kp.size q)
theorem RdX.three (h : RdX w0 r v0 a x f v k w) : w.cell? ⟨r, 0, none⟩ = some a ∧ w.cell? ⟨r, 1, none⟩ = some (.int .i64 x) ∧ w.cell? ⟨r, 2, none⟩ = some f := ⟨h.h.cell 0, h.h.cell 1, h.h.cell 2⟩
theorem RdX.own (h : RdX w0 r v0 a x f v k w) : Own1 0 5 w v (bV k) := ⟨by rw [bV_len]; exact h.o, h.nl.trans (by simp [bV])⟩
end
/-- A Reader that lies there. -/
structure Rd (w : World) (r : Nat) (v : Value) (s : FrS) : Prop where
  h : Has w r 47 [v, .int .i64 (s.x : Int), nx s.m]
  o : w.ownsRow 0 5 1 v s.k.length (bV s.k)
  nl : v = .slice none 0 0 ↔ s.k = []
  ok : s.ok
/-- Behind a call of it: only its own memory has changed. -/
structure RdT (w : World) (r : Nat) (v : Value) (s' : FrS) (v' : Value) (w' : World) : Prop where
  t : Rd w' r v' s'
  fr : ∀ g, v'.ownBlock = some g → v.ownBlock = some g ∨ w.heap.size ≤ g
  kp : Kept (fun b => b = r ∨ v.ownBlock = some b) w w'
def outP : Option Pc → Value
  | none => .tuple #[.agg #[.string ⟨#[]⟩, .int .i64 0], .bool false]
  | some p => .tuple #[.agg #[.string p.1, .int .i64 p.2], .bool true]
/-- What a byte tells. -/
def ByteT (r : Nat) (v : Value) (s : FrS) (b : UInt8) (w : World) (e : Ending) (w' : World) : Prop := ∃ v', e = .returned (outP (s.step b).2) ∧ RdT w r v (s.step b).1 v' w'
theorem RdX.to {w0 w : World} {r : Nat} {v0 v f : Value} {x : Int} {k : List UInt8} (h : RdX w0 r v0 v x f v k w) {s : FrS} (e1 : k = s.k) (e2 : x = (s.x : Int)) (e3 : f = nx s.m) (ok : s.ok) : RdT w0 r v0 s v w := by
  subst e1; subst e2; subst e3
  exact ⟨⟨h.h, h.o, h.nl, ok⟩, h.fr, h.kp⟩
theorem Rd.three {w : World} {r : Nat} {v : Value} {s : FrS} (h : Rd w r v s) : w.cell? ⟨r, 0, none⟩ = some v ∧ w.cell? ⟨r, 1, none⟩ = some (.int .i64 (s.x : Int)) ∧ w.cell? ⟨r, 2, none⟩ = some (nx s.m) := ⟨h.h.cell 0, h.h.cell 1, h.h.cell 2⟩
theorem Rd.toX {w : World} {r : Nat} {v : Value} {s : FrS} (h : Rd w r v s) : RdX w r v v (s.x : Int) (nx s.m) v s.k w :=
  ⟨h.h, h.o, h.nl, fun g hg => .inl hg, Kept.refl _ _, h.h.lt⟩
theorem int_lt1 {x : Nat} : ((x : Int) - 1 = ((x - 1 : Nat) : Int)) ∨ x = 0 := by omega
/-- A byte that is passed over. -/
theorem passOver_any (w : World) (r : Nat) (v : Value) (s : FrS) (b : UInt8) (hm : s.m = 2) (h : Rd w r v s) : Calls Try.prog 21 #[.pointer (some ⟨r, 0, none⟩), .int .u8 (b.toNat : Int)] w (ByteT r v s b w) := by
  have hlt := h.h.lt
  obtain ⟨c0, c1, c2⟩ := h.three
  have hl : ∀ i, w.frozen? ⟨r, i, none⟩ = false := h.h.loose
  have X := Lib.hid h.toX
  have hok : s.k = [] ∧ 1 ≤ s.x ∧ s.x ≤ 65535 := by
    rcases h.ok with ⟨q, _⟩ | ⟨q, _⟩ | ⟨_, q⟩
    · rw [hm] at q; cases q
    · rw [hm] at q; cases q
    · exact q
  obtain ⟨k0, x1, x2⟩ := hok
  obtain rfl : v = .slice none 0 0 := h.nl.2 k0
  rw [hm] at c2
  replace c2 : w.cell? ⟨r, 2, none⟩ = some (.func (.func 21) #[] #[]) := c2
  have hst : s.step b = over1 s.x := by obtain ⟨m, k, x⟩ := s; simp only at hm; subst hm; rfl
  unfold ByteT
  rw [hst, over1]
  obtain ⟨x, hx⟩ : ∃ x, s.x = x := ⟨_, rfl⟩
  rw [hx] at X c1 x1 x2 ⊢
  rw [k0, hm] at X
  clear h hst
  by_cases e1 : x ≤ 1
  · obtain rfl : x = 1 := by omega
    rw [if_pos e1]
    clear e1 x1 x2 hx
    go_enter Try.func21, Try.ntmps21
    go_wp2
    refine bodyPost_ret (v := .tuple #[.agg #[.string ⟨#[]⟩, .int .i64 0], .bool false]) (by simp [results, Try.results21, go_sem]) rfl ⟨_, rfl, (((X.out.put1 _).put2 _).alloc _).to rfl (by rfl) rfl ok_new⟩
  · rw [if_neg e1]
    obtain ⟨y, rfl⟩ : ∃ y, x = y + 1 := ⟨x - 1, by omega⟩
    rw [Nat.add_sub_cancel]
    have e2 : ((y : Int) == 0) = false := by simp; omega
    have e3 : ¬ ((y : Int) = 0) := by omega
    clear e1 hx
    go_enter Try.func21, Try.ntmps21
    go_wp2
    refine bodyPost_ret (v := .tuple #[.agg #[.string ⟨#[]⟩, .int .i64 0], .bool false]) (by simp [results, Try.results21, go_sem]) rfl ⟨_, rfl, ((X.out.put1 _).alloc _).to rfl (by rfl) rfl (.inr (.inr ⟨rfl, rfl, by show 1 ≤ y; omega, by show y ≤ 65535; omega⟩))⟩
end Go.Proofs.Ytgcdminjpdbchab
