/- What an ask of a ring tells, in one: the same of ring.Ask and of the document's own; and plain arithmetic of it. -/
import Derived.Test.YtbmjpfcnagodaaaRg13
import Derived.Test.YtbmjpfcnagodaaaRg14
namespace Go.Proofs.Ytbmjpfcnagodaaa
open Go.ChangeShapes Go.WideShapes Go.ChangeAt Go.RowKit
set_option linter.unusedVariables false

/-- The sums at the time of an ask, ahead of it. -/
def rF0 (b sl a t : Int) (sn : Nat) (f : Nat → Int) : Nat → Int := turnV b (a / sl) (tmax t a / sl) sn f
def rAl (l b sl a t m : Int) (sn : Nat) (f : Nat → Int) : Bool := decide (cntV b (tmax t a / sl) (tmax t a / sl) b.toNat (rF0 b sl a t sn f) + m ≤ l)
def rF (l b sl a t m : Int) (sn : Nat) (f : Nat → Int) : Nat → Int :=
  if rAl l b sl a t m sn f = true then putF (rF0 b sl a t sn f) (tmax t a / sl % b).toNat (rF0 b sl a t sn f (tmax t a / sl % b).toNat + m) else rF0 b sl a t sn f
def rRm (l b sl a t m : Int) (sn : Nat) (f : Nat → Int) : Int := l - cntV b (tmax t a / sl) (tmax t a / sl) b.toNat (rF l b sl a t m sn f)
def rRt (l b sl a t m : Int) (sn : Nat) (f : Nat → Int) : Int :=
  if rAl l b sl a t m sn f = true then 0 else if l < m then 2199023255552 else waitV (fun q => cntV b (tmax t a / sl) q b.toNat (rF0 b sl a t sn f)) sl (tmax t a / sl) b (tmax t a) (l - m)
def rRs (l b sl a t m : Int) (sn : Nat) (f : Nat → Int) : Int := waitV (fun q => cntV b (tmax t a / sl) q b.toNat (rF l b sl a t m sn f)) sl (tmax t a / sl) b (tmax t a) 0
theorem RTold.tells {T : Int} {B : Nat} {f : Nat → Int} {al : Bool} {rm rt rs : Int} {w w' : World} {e : Ending} (h : RTold T B f al rm rt rs w e w') (g1 g2 : Nat → Int) : Tells T 0 B f 0 g1 g2 al rm rt rs w e w' := by
  obtain ⟨gS, h1, _, h2, h3⟩ := h
  exact ⟨some ⟨gS, 0, none⟩, none, B, 0, h1, sums_row h2, HitsAt.nil _ _ _ _, h3⟩
theorem told_eq {P : Nat} {args : Array Value} {w : World} {T : Int} {B : Nat} {f f' : Nat → Int} {al al' : Bool} {rm rt rs rm' rt' rs' : Int} (h : Calls Try.prog P args w (RTold T B f al rm rt rs w)) (e0 : f = f') (e1 : al = al') (e2 : rm = rm') (e3 : rt = rt') (e4 : rs = rs') : Calls Try.prog P args w (RTold T B f' al' rm' rt' rs' w) := by
  subst e0 e1 e2 e3 e4
  exact h
section
variable {k l v b sl a : Int} {sa ha : Option Addr} {sn sc hc : Nat} {f : Nat → Int}
theorem Ask_R0 (h : RP k l v b sl) (a1 : 0 ≤ a) (a2 : a ≤ 1099511627776) (hm : MaySums l b (a / sl) sn f) (w : World) (hf : SumsAt w sa sn f) {t m : Int} (t1 : 0 ≤ t) (t2 : t ≤ 1099511627776) (m1 : 1 ≤ m) (m2 : m ≤ 1048576) :
    Calls Try.prog 10 #[.agg #[.int .i64 k, .int .i64 l, .int .i64 v, .int .i64 b], .agg #[.int .i64 a, .int .i64 0, .slice sa sn sc, .slice ha 0 hc], .int .i64 t, .int .i64 m] w (RTold (tmax t a) b.toNat (rF l b sl a t m sn f) (rAl l b sl a t m sn f) (rRm l b sl a t m sn f) (rRt l b sl a t m sn f) (rRs l b sl a t m sn f) w) := by
  obtain ⟨l1, l2, v1, v2, b1, b2, s1, s2, _⟩ := h.bd
  obtain ⟨B, hB⟩ : ∃ B : Nat, b = (B : Int) := ⟨b.toNat, by omega⟩
  subst hB
  rw [show ((B : Int)).toNat = B from Int.toNat_natCast B]
  by_cases hq : cntV (B : Int) (tmax t a / sl) (tmax t a / sl) B (turnV (B : Int) (a / sl) (tmax t a / sl) sn f) + m ≤ l
  · have ea : rAl l (B : Int) sl a t m sn f = true := decide_eq_true hq
    refine told_eq (Ask_al k l v sl a t m (tmax t a) sa ha sn sc hc B f w h a1 a2 hm hf t1 t2 m1 m2 rfl hq) ?_ ea.symm ?_ ?_ ?_
    · unfold rF; rw [if_pos ea]; rfl
    · unfold rRm rF; rw [if_pos ea]; rfl
    · unfold rRt; rw [if_pos ea]
    · unfold rRs rF; rw [if_pos ea]; rfl
  · have ea : rAl l (B : Int) sl a t m sn f = false := decide_eq_false hq
    have en : ¬ rAl l (B : Int) sl a t m sn f = true := by rw [ea]; simp
    by_cases hl : m ≤ l
    · refine told_eq (Ask_re k l v sl a t m (tmax t a) sa ha sn sc hc B f w h a1 a2 hm hf t1 t2 m1 m2 rfl hl (by omega)) ?_ ea.symm ?_ ?_ ?_
      · unfold rF; rw [if_neg en]; rfl
      · unfold rRm rF; rw [if_neg en]; rfl
      · unfold rRt; rw [if_neg en, if_neg (by omega)]; rfl
      · unfold rRs rF; rw [if_neg en]; rfl
    · refine told_eq (Ask_nv k l v sl a t m (tmax t a) sa ha sn sc hc B f w h a1 a2 hm hf t1 t2 m1 m2 rfl (by omega)) ?_ ea.symm ?_ ?_ ?_
      · unfold rF; rw [if_neg en]; rfl
      · unfold rRm rF; rw [if_neg en]; rfl
      · unfold rRt; rw [if_neg en, if_pos (by omega)]
      · unfold rRs rF; rw [if_neg en]; rfl
theorem Ask_R (h : RP k l v b sl) (a1 : 0 ≤ a) (a2 : a ≤ 1099511627776) (hm : MaySums l b (a / sl) sn f) (w : World) (hf : SumsAt w sa sn f) {t m : Int} (t1 : 0 ≤ t) (t2 : t ≤ 1099511627776) (m1 : 1 ≤ m) (m2 : m ≤ 1048576) (g1 g2 : Nat → Int) :
    Calls Try.prog 10 #[.agg #[.int .i64 k, .int .i64 l, .int .i64 v, .int .i64 b], .agg #[.int .i64 a, .int .i64 0, .slice sa sn sc, .slice ha 0 hc], .int .i64 t, .int .i64 m] w (Tells (tmax t a) 0 b.toNat (rF l b sl a t m sn f) 0 g1 g2 (rAl l b sl a t m sn f) (rRm l b sl a t m sn f) (rRt l b sl a t m sn f) (rRs l b sl a t m sn f) w) :=
  (Ask_R0 h a1 a2 hm w hf t1 t2 m1 m2).mono (fun _ _ q => q.tells g1 g2)
theorem rAsk_R0 (h : RP k l v b sl) (a1 : 0 ≤ a) (a2 : a ≤ 1099511627776) (hm : MaySums l b (a / sl) sn f) (w : World) (hf : SumsAt w sa sn f) {t m : Int} (t1 : 0 ≤ t) (t2 : t ≤ 1099511627776) (m1 : 1 ≤ m) (m2 : m ≤ 1048576) :
    Calls Try.prog 11 #[.agg #[.int .i64 k, .int .i64 l, .int .i64 v, .int .i64 b], .agg #[.int .i64 a, .int .i64 0, .slice sa sn sc, .slice ha 0 hc], .int .i64 t, .int .i64 m] w (RTold (tmax t a) b.toNat (rF l b sl a t m sn f) (rAl l b sl a t m sn f) (rRm l b sl a t m sn f) (rRt l b sl a t m sn f) (rRs l b sl a t m sn f) w) := by
  obtain ⟨l1, l2, v1, v2, b1, b2, s1, s2, _⟩ := h.bd
  obtain ⟨B, hB⟩ : ∃ B : Nat, b = (B : Int) := ⟨b.toNat, by omega⟩
  subst hB
  rw [show ((B : Int)).toNat = B from Int.toNat_natCast B]
  by_cases hq : cntV (B : Int) (tmax t a / sl) (tmax t a / sl) B (turnV (B : Int) (a / sl) (tmax t a / sl) sn f) + m ≤ l
  · have ea : rAl l (B : Int) sl a t m sn f = true := decide_eq_true hq
    refine told_eq (rAsk_al k l v sl a t m (tmax t a) sa ha sn sc hc B f w h a1 a2 hm hf t1 t2 m1 m2 rfl hq) ?_ ea.symm ?_ ?_ ?_
    · unfold rF; rw [if_pos ea]; rfl
    · unfold rRm rF; rw [if_pos ea]; rfl
    · unfold rRt; rw [if_pos ea]
    · unfold rRs rF; rw [if_pos ea]; rfl
  · have ea : rAl l (B : Int) sl a t m sn f = false := decide_eq_false hq
    have en : ¬ rAl l (B : Int) sl a t m sn f = true := by rw [ea]; simp
    by_cases hl : m ≤ l
    · refine told_eq (rAsk_re k l v sl a t m (tmax t a) sa ha sn sc hc B f w h a1 a2 hm hf t1 t2 m1 m2 rfl hl (by omega)) ?_ ea.symm ?_ ?_ ?_
      · unfold rF; rw [if_neg en]; rfl
      · unfold rRm rF; rw [if_neg en]; rfl
      · unfold rRt; rw [if_neg en, if_neg (by omega)]; rfl
      · unfold rRs rF; rw [if_neg en]; rfl
    · refine told_eq (rAsk_nv k l v sl a t m (tmax t a) sa ha sn sc hc B f w h a1 a2 hm hf t1 t2 m1 m2 rfl (by omega)) ?_ ea.symm ?_ ?_ ?_
      · unfold rF; rw [if_neg en]; rfl
      · unfold rRm rF; rw [if_neg en]; rfl
      · unfold rRt; rw [if_neg en, if_pos (by omega)]
      · unfold rRs rF; rw [if_neg en]; rfl
theorem rAsk_R (h : RP k l v b sl) (a1 : 0 ≤ a) (a2 : a ≤ 1099511627776) (hm : MaySums l b (a / sl) sn f) (w : World) (hf : SumsAt w sa sn f) {t m : Int} (t1 : 0 ≤ t) (t2 : t ≤ 1099511627776) (m1 : 1 ≤ m) (m2 : m ≤ 1048576) (g1 g2 : Nat → Int) :
    Calls Try.prog 11 #[.agg #[.int .i64 k, .int .i64 l, .int .i64 v, .int .i64 b], .agg #[.int .i64 a, .int .i64 0, .slice sa sn sc, .slice ha 0 hc], .int .i64 t, .int .i64 m] w (Tells (tmax t a) 0 b.toNat (rF l b sl a t m sn f) 0 g1 g2 (rAl l b sl a t m sn f) (rRm l b sl a t m sn f) (rRt l b sl a t m sn f) (rRs l b sl a t m sn f) w) :=
  (rAsk_R0 h a1 a2 hm w hf t1 t2 m1 m2).mono (fun _ _ q => q.tells g1 g2)
end
theorem tmax_hi {t a : Int} (h : a ≤ t) : tmax t a = t := by unfold tmax; split <;> omega
theorem tmax_bd {t a : Int} : a ≤ tmax t a ∧ t ≤ tmax t a := by unfold tmax; split <;> omega
theorem tmax_tmax (t a : Int) : tmax t (tmax t a) = tmax t a := by
  by_cases h : t ≤ a
  · have e : tmax t a = a := if_pos h
    rw [e, e]
  · have e : tmax t a = t := if_neg h
    rw [e]; unfold tmax; split <;> rfl
/-- What counts hangs on the sums' own places alone. -/
theorem cnt_congr {b N X : Int} {sn : Nat} {f g : Nat → Int} (hb : 1 ≤ b) (hs : (sn : Int) = b) (e : ∀ i, i < sn → f i = g i) : cntV b N X sn f = cntV b N X sn g := by
  unfold cntV
  refine csum_congr (fun i _ => ?_)
  unfold inV
  split
  · rfl
  · have m0 : 0 ≤ (X - b + 1 + (i : Int)) % b := Int.emod_nonneg _ (by omega)
    have m1 : (X - b + 1 + (i : Int)) % b < b := Int.emod_lt_of_pos _ (by omega)
    exact e _ (by omega)
section
variable {k l v b sl a t m : Int} {sn : Nat} {f : Nat → Int}
/-- What counts behind an ask, at its bucket or later. -/
theorem cnt_F0 (h : RP k l v b sl) (hm : MaySums l b (a / sl) sn f) {X : Int} (hX : tmax t a / sl ≤ X) : cntV b (tmax t a / sl) X b.toNat (rF0 b sl a t sn f) = cntV b (a / sl) X sn f := by
  obtain ⟨l1, l2, v1, v2, b1, b2, s1, s2, _⟩ := h.bd
  exact cnt_turn b1 (Int.ediv_le_ediv (by omega) tmax_bd.1) hX
theorem al_iff (h : RP k l v b sl) (hm : MaySums l b (a / sl) sn f) : rAl l b sl a t m sn f = true ↔ cntV b (a / sl) (tmax t a / sl) sn f + m ≤ l := by
  unfold rAl
  rw [cnt_F0 h hm (Int.le_refl _)]
  simp
theorem cnt_F (h : RP k l v b sl) (hm : MaySums l b (a / sl) sn f) (a1 : 0 ≤ a) {X : Int} (hX : tmax t a / sl ≤ X) :
    cntV b (tmax t a / sl) X b.toNat (rF l b sl a t m sn f) = cntV b (a / sl) X sn f + if rAl l b sl a t m sn f = true ∧ X < tmax t a / sl + b then m else 0 := by
  obtain ⟨l1, l2, v1, v2, b1, b2, s1, s2, _⟩ := h.bd
  have M0 : 0 ≤ tmax t a / sl := Int.ediv_nonneg (by have := tmax_bd (t := t) (a := a); omega) (by omega)
  unfold rF
  by_cases e : rAl l b sl a t m sn f = true
  · rw [if_pos e, cnt_put b1 M0 hX, cnt_F0 h hm hX]
    by_cases c : X < tmax t a / sl + b
    · rw [if_pos c, if_pos ⟨e, c⟩]
    · rw [if_neg c, if_neg (fun q => c q.2)]
  · rw [if_neg e, cnt_F0 h hm hX, if_neg (fun q => e q.1), Int.add_zero]
/-- A cell behind an ask may be. -/
theorem may_F (h : RP k l v b sl) (hm : MaySums l b (a / sl) sn f) (a1 : 0 ≤ a) (m1 : 0 ≤ m) : MaySums l b (tmax t a / sl) b.toNat (rF l b sl a t m sn f) := by
  obtain ⟨l1, l2, v1, v2, b1, b2, s1, s2, _⟩ := h.bd
  have hB : ((b.toNat : Nat) : Int) = b := by omega
  have M0 : 0 ≤ tmax t a / sl := Int.ediv_nonneg (by have := tmax_bd (t := t) (a := a); omega) (by omega)
  have mt : MaySums l b (tmax t a / sl) b.toNat (rF0 b sl a t sn f) := may_turn b1 hB hm (by omega) (Int.ediv_le_ediv (by omega) tmax_bd.1) M0
  unfold rF
  split
  · rename_i e
    exact may_put b1 hB mt M0 m1 (by unfold rAl at e; simpa using e)
  · exact mt
/-- Turned at its own time a ring is as it was. -/
theorem turn_same {l b M : Int} {B : Nat} {g : Nat → Int} (hb : 1 ≤ b) (hB : (B : Int) = b) (hM : 0 ≤ M) (hm : MaySums l b M B g) (j : Nat) (hj : j < B) : turnV b M M B g j = g j := by
  have u0 : 0 ≤ (M - (j : Int)) % b := Int.emod_nonneg _ (by omega)
  have u1 : (M - (j : Int)) % b < b := Int.emod_lt_of_pos _ (by omega)
  have uj : (M - (M - (j : Int)) % b) % b = j := by
    rw [Int.sub_emod, Int.emod_emod_of_dvd _ (Int.dvd_refl b), ← Int.sub_emod, show M - (M - (j : Int)) = j by omega]
    exact Int.emod_eq_of_lt (by omega) (by omega)
  unfold turnV inV
  generalize (M - (j : Int)) % b = u at *
  by_cases c : M - u < 0
  · rw [if_pos (.inl c)]
    refine (hm.zero j hj ?_).symm
    have := Int.add_emod_right (M - u) b
    rw [uj, Int.emod_eq_of_lt (by omega) (by omega)] at this
    omega
  · rw [if_neg (by omega), uj]; rfl
/-- The wait till nothing counts, or till no more than so much does. -/
theorem wait_le {C : Int → Int} {sl b t most v : Int} (hv : sl * b = v) (hs : 1 ≤ sl) (hs2 : sl ≤ 1048576) (ht : 0 ≤ t) (hb : 1 ≤ b) (hb2 : b ≤ 16) (hend : C (t / sl + b) ≤ most) :
    0 ≤ waitV C sl (t / sl) b t most ∧ waitV C sl (t / sl) b t most ≤ v ∧ C ((t + waitV C sl (t / sl) b t most) / sl) ≤ most ∧ (0 < waitV C sl (t / sl) b t most → most < C ((t + waitV C sl (t / sl) b t most - 1) / sl)) := by
  by_cases h : C (t / sl) ≤ most
  · rw [wait_zero h, Int.add_zero]
    refine ⟨Int.le_refl _, ?_, h, fun q => by omega⟩
    have := Int.mul_nonneg (show 0 ≤ sl by omega) (show 0 ≤ b by omega)
    omega
  · obtain ⟨h1, h2, h3, h4, h5⟩ := wait_pos hs hs2 ht hb hb2 (show most < C (t / sl) by omega) hend
    exact ⟨by omega, by omega, h3, fun _ => h4⟩
end
end Go.Proofs.Ytbmjpfcnagodaaa
