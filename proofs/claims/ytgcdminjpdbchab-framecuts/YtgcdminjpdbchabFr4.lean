/- A Reader's calls, one byte at a time. -/
import Derived.Test.YtgcdminjpdbchabFr3
namespace Go.Proofs.Ytgcdminjpdbchab
open Go.ChangeShapes Go.WideShapes Go.ChangeAt Go.RowKit
set_option linter.unusedVariables false

def nf (m : Nat) : Nat := if m = 0 then 15 else if m = 1 then 20 else 21
theorem nx_nf (m : Nat) : nx m = .func (.func (nf m)) #[] #[] := by
  unfold nx nf
  by_cases h : m = 0
  · rw [if_pos h, if_pos h]
  · rw [if_neg h, if_neg h]
    by_cases h : m = 1
    · rw [if_pos h, if_pos h]
    · rw [if_neg h, if_neg h]
theorem next_any (w : World) (r : Nat) (v : Value) (s : FrS) (b : UInt8) (h : Rd w r v s) : Calls Try.prog (nf s.m) #[.pointer (some ⟨r, 0, none⟩), .int .u8 (b.toNat : Int)] w (ByteT r v s b w) := by
  obtain ⟨m, k, x⟩ := s
  have hok := h.ok
  rcases hok with ⟨h1, h2, h3⟩ | ⟨h1, h2, h3, h4⟩ | ⟨h1, h2, h3, h4⟩
  · simp only at h1 h2 h3
    subst h1; subst h3
    match k, h2, h with
    | [], _, h => exact readHead_one w r v b h
    | [a], _, h =>
      have hs : FrS.step ⟨0, [a], 0⟩ b = head1 [a] b := rfl
      unfold ByteT
      rw [hs]
      unfold head1
      simp only
      by_cases hg : goodN (lenN a b) = true
      · rw [if_pos hg]
        unfold goodN at hg
        simp only [Bool.and_eq_true, decide_eq_true_eq] at hg
        exact readHead_good w r v a b hg h
      · rw [if_neg hg]
        unfold goodN at hg
        simp only [Bool.and_eq_true, decide_eq_true_eq] at hg
        by_cases h0 : lenN a b = 0
        · have e : badS (lenN a b) = FrS.new := by unfold badS; rw [if_pos h0, h0]; rfl
          rw [e]
          exact readHead_none w r v a b h0 h
        · have e : badS (lenN a b) = ⟨2, [], lenN a b⟩ := by unfold badS; rw [if_neg h0]
          rw [e]
          exact readHead_bad w r v a b (by omega) h
  · simp only at h1 h2 h3 h4
    subst h1
    have hs : FrS.step ⟨1, k, x⟩ b = text1 k x b := rfl
    unfold ByteT
    rw [hs]
    unfold text1
    by_cases e : x ≤ 1
    · obtain rfl : x = 1 := by omega
      rw [if_pos e]
      exact readText_last w r v k 0 k.length b rfl h2 (by omega) h
    · rw [if_neg e]
      obtain ⟨y, rfl⟩ : ∃ y, x = y + 2 := ⟨x - 2, by omega⟩
      exact readText_more w r v k y k.length b rfl h2 (by omega) h4 h
  · simp only at h1
    subst h1
    exact passOver_any w r v _ b rfl h
theorem Rd.step {w w' : World} {r : Nat} {v : Value} {s : FrS} (h : Rd w r v s) (hb : Below w.heap.size w w') : Rd w' r v s :=
  ⟨fadd h.h hb, ownsRow_kept2 h.o (Kept.of_below (F := fun _ => False) hb) (fun _ _ q => q), h.nl, h.ok⟩
theorem Rd.kept {F : Nat → Prop} {w w' : World} {r : Nat} {v : Value} {s : FrS} (h : Rd w r v s) (hk : Kept F w w') (h1 : ¬ F r) (h2 : ∀ b, v.ownBlock = some b → ¬ F b) : Rd w' r v s :=
  ⟨h.h.kept hk h1, ownsRow_kept2 h.o hk h2, h.nl, h.ok⟩
theorem Rd.lt {w : World} {r : Nat} {v : Value} {s : FrS} (h : Rd w r v s) : r < w.heap.size ∧ ∀ b, v.ownBlock = some b → b < w.heap.size := ⟨h.h.lt, fun b hb => (owns_lt h.o hb).2.1⟩
theorem RdT.refl {w : World} {r : Nat} {v : Value} {s : FrS} (h : Rd w r v s) : RdT w r v s v w := ⟨h, fun g hg => .inl hg, Kept.refl _ _⟩
theorem RdT.trans {w w1 w2 : World} {r : Nat} {v v1 v2 : Value} {s1 s2 : FrS} (h : RdT w r v s1 v1 w1) (k : RdT w1 r v1 s2 v2 w2) : RdT w r v s2 v2 w2 := by
  refine ⟨k.t, fun g hg => ?_, h.kp.trans k.kp (fun b q => ?_)⟩
  · rcases k.fr g hg with q | q
    · exact h.fr g q
    · exact .inr (Nat.le_trans h.kp.size q)
  · rcases q with q | q
    · exact .inl (.inl q)
    · exact (h.fr b q).imp .inr id
theorem RdT.step {w w1 w2 : World} {r : Nat} {v v1 : Value} {s1 : FrS} (h : RdT w r v s1 v1 w1) (hb : Below w1.heap.size w1 w2) : RdT w r v s1 v1 w2 :=
  ⟨h.t.step hb, h.fr, h.kp.trans (Kept.of_below (F := fun _ => False) hb) (fun _ q => q.elim)⟩
/-- From a world that had only new blocks beside. -/
theorem RdT.from {w w1 w2 : World} {r : Nat} {v v1 : Value} {s1 : FrS} (h : RdT w1 r v s1 v1 w2) (hb : Below w.heap.size w w1) : RdT w r v s1 v1 w2 :=
  ⟨h.t, fun g hg => (h.fr g hg).imp id (fun q => Nat.le_trans hb.size q), ((Kept.of_below (F := fun _ => False) hb).mono (fun _ _ q => q.elim)).trans h.kp (fun b q => .inl q)⟩
theorem owns_ne2 {w : World} {B B' : Nat} {e e' : TypeId} {size size' n n' : Nat} {v v' : Value} {xs xs' : List Value} (h : w.ownsRow B e size v n xs) (h' : w.ownsRow B' e' size' v' n' xs') (ht : e ≠ e') {b : Nat} (hb : v.ownBlock = some b) : v'.ownBlock ≠ some b := by
  intro q
  obtain ⟨_, _, cs, h3⟩ := owns_lt h hb
  obtain ⟨_, _, cs', h4⟩ := owns_lt h' q
  rw [h3] at h4
  injection h4 with h4
  injection h4 with _ h5 _
  exact ht h5
/-- A row of pieces beside a Reader that is called. -/
theorem OwnPr.beside {B : Nat} {w w' : World} {pv : Value} {l : List (ByteArray × Int)} {T : TypeId} {r : Nat} {v v' : Value} {s s' : FrS} (h : OwnPr B T w pv l) (hR : Rd w r v s) (hT : RdT w r v s' v' w') (h1 : 47 ≠ T) (h2 : T ≠ 5) : OwnPr B T w' pv l :=
  h.kept hT.kp (fun b hb q => q.elim (fun e => owns_ne h hb hR.h h1 e.symm) (fun e => owns_ne2 h hR.o h2 hb e))
theorem New_any (w : World) : Calls Try.prog 8 #[] w fun e w' => e = .returned (.pointer (some ⟨w.heap.size, 0, none⟩)) ∧ Rd w' w.heap.size (.slice none 0 0) FrS.new ∧ Below w.heap.size w w' ∧ w.heap.size < w'.heap.size := by
  go_enter Try.func8, Try.ntmps8
  go_wp2
  go_ret
  exact ⟨rfl, ⟨Has.made w 47 [.slice none 0 0, .int .i64 0, .func (.func 15) #[] #[]], ⟨rfl, .inl ⟨rfl, rfl⟩⟩, ⟨fun _ => rfl, fun _ => rfl⟩, ok_new⟩, (Below.refl _ _).alloc (Nat.le_refl _) _, by simp⟩
theorem made_any (w : World) (r : Nat) (v : Value) (s : FrS) (h : Rd w r v s) : Calls Try.prog 16 #[.pointer (some ⟨r, 0, none⟩)] w fun e w' => e = .returned (.bool true) ∧ w = w' := by
  have c2 := h.three.2.2
  have hlt := h.h.lt
  rw [nx_nf] at c2
  generalize nf s.m = F at c2
  clear h
  have hq : ∀ W, (binOp .neq 44 (.func (.func F) #[] #[]) .nilFunc).run Try.prog W = .ok (.bool true) W := fun W => by
    first | rfl | simp [binOp, go_sem, Try.underlying44]
  go_enter Try.func16, Try.ntmps16
  go_wp2
  go_ret
  exact ⟨rfl, rfl⟩
theorem Left_any (w : World) (r : Nat) (v : Value) (s : FrS) (h : Rd w r v s) : Calls Try.prog 12 #[.pointer (some ⟨r, 0, none⟩)] w fun e w' => e = .returned (.int .i64 (s.k.length : Int)) ∧ w = w' := by
  have HM := Lib.hid (made_any w r v s h)
  have c0 := h.three.1
  have hlt := h.h.lt
  obtain ⟨A, cap, hv⟩ : ∃ A cap, v = .slice A s.k.length cap := by
    obtain ⟨A, cap, e⟩ := h.toX.own.sl
    exact ⟨A, cap, by rw [e, bV_len]⟩
  rw [hv] at c0
  have hm := keep_len h.ok
  generalize s.k.length = n at *
  clear h hv
  go_enter Try.func12, Try.ntmps12
  go_wp2_with fail
  refine HM.out.mono ?_
  rintro e w1 ⟨rfl, rfl⟩
  go_wp2
  go_ret
  exact ⟨rfl, rfl⟩
end Go.Proofs.Ytgcdminjpdbchab
