/- Exact's added: one more weight on the last hit of a row of a call's own. -/
import Derived.Test.YtgdcgilhaedbmaaEx8
import Derived.Deep.AppendLies
import Derived.BigQuiet
import Derived.RegionTactic
-- prune
namespace Go.Proofs.Ytgdcgilhaedbmaa
open Go.ChangeShapes Go.WideShapes Go.ChangeAt Go.RowKit
set_option linter.unusedVariables false

theorem hv_last (f g : Nat → Int) (n : Nat) (y : Int) (n1 : 1 ≤ n) : (hv f g n).set ((n - 1) * 2 + 1) (.int .i64 y) = hv f (putF g (n - 1) y) n := by
  obtain ⟨p, rfl⟩ : ∃ p, n = p + 1 := ⟨n - 1, by omega⟩
  have hl := hv_len f g p
  have e := hv_snoc f g p (f p) y
  have e2 := hv_snoc f g p (f p) (g p)
  have e3 : hv (putF f p (f p)) (putF g p (g p)) (p + 1) = hv f g (p + 1) := hv_congr (fun i hi => by unfold putF; constructor <;> split <;> simp_all)
  have e4 : hv (putF f p (f p)) (putF g p y) (p + 1) = hv f (putF g p y) (p + 1) := hv_congr (fun i hi => by unfold putF; constructor <;> split <;> simp_all)
  rw [Nat.add_sub_cancel, ← e4, ← e, ← e3, ← e2, List.set_append_right _ _ (by omega)]
  congr 1
  rw [show p * 2 + 1 - (hv f g p).length = 1 by omega]
  rfl
theorem OwnH.put {B : Nat} {w : World} {gb n cap : Nat} {f g : Nat → Int} (h : OwnH B w (.slice (some ⟨gb, 0, none⟩) n cap) n f g) (n1 : 1 ≤ n) (y : Int) : OwnH B (w.setCell ⟨gb, (n - 1) * 2 + 1, none⟩ (.int .i64 y)) (.slice (some ⟨gb, 0, none⟩) n cap) n f (putF g (n - 1) y) := by
  obtain ⟨h1, ⟨h2, _⟩ | ⟨c, cp, cur, h2, hb, hh, h5, h6, h7, h8⟩⟩ := h
  · cases h2
  injection h2 with ha _ hcp
  injection ha with ha
  injection ha with ha
  subst ha hcp
  refine ⟨hv_len f _ n, .inr ⟨gb, cap, cur.setIfInBounds ((n - 1) * 2 + 1) (.int .i64 y), rfl, hb, ?_, h5, h6, by simpa using h7, ?_⟩⟩
  · simp [World.setCell, Array.getElem?_modify, hh]
  · rw [Array.toList_setIfInBounds, List.take_set, h8, hv_last f g n y n1]
theorem OwnH.form {B : Nat} {w : World} {v : Value} {n : Nat} {f g : Nat → Int} (h : OwnH B w v n f g) (n1 : 1 ≤ n) : ∃ gb cap, v = .slice (some ⟨gb, 0, none⟩) n cap ∧ gb < w.heap.size ∧ n ≤ cap ∧ cap ≤ maxLen ∧ (∀ i, w.frozen? ⟨gb, i, none⟩ = false) ∧ (∀ i, i < n → w.cell? ⟨gb, i * 2, none⟩ = some (.int .i64 (f i)) ∧ w.cell? ⟨gb, i * 2 + 1, none⟩ = some (.int .i64 (g i))) := by
  obtain ⟨A, cap, hv1, hc1, hc2, hat⟩ := h.at_
  obtain ⟨b, off, e, hb, hc⟩ := hat (by omega)
  subst e
  subst hv1
  obtain ⟨h1, ⟨h2, _⟩ | ⟨c, cp, cur, h2, hb', hh, h5, h6, h7, h8⟩⟩ := h
  · cases h2
  injection h2 with ha _ hcp
  injection ha with ha
  injection ha with ha ho
  subst ha hcp ho
  refine ⟨b, cap, rfl, hb, hc1, hc2, fun i => by simp [World.frozen?, hh], fun i hi => ?_⟩
  have := hc i hi
  simpa using this
set_option maxRecDepth 100000 in
set_option maxHeartbeats 4000000 in
theorem added_same (B : Nat) (vv : Value) (n : Nat) (f g : Nat → Int) (T m : Int) (w : World) (hB : B ≤ w.heap.size) (ho : OwnH B w vv n f g) (hn : n ≤ 64) (n1 : 1 ≤ n) (hT : f (n - 1) = T) (g0 : 0 ≤ g (n - 1)) (g1 : g (n - 1) ≤ 1048576) (m0 : 0 ≤ m) (m1 : m ≤ 1048576) :
    Calls Try.prog 26 #[vv, .agg #[.int .i64 T, .int .i64 m]] w (AddedH B vv n f (putF g (n - 1) (g (n - 1) + m)) w) := by
  obtain ⟨b, cap, rfl, hb, hc1, hc2, hfr, hc⟩ := ho.form n1
  have hz0 := hfr ((n - 1) * 2 + 1)
  have hx := (hc (n - 1) (by omega)).1
  have hz := (hc (n - 1) (by omega)).2
  rw [hT] at hx
  obtain ⟨x, hgx⟩ : ∃ x, g (n - 1) = x := ⟨_, rfl⟩
  rw [hgx] at hz g0 g1 ⊢
  have HE := Lib.hid (fun k => show AddedH B (.slice (some ⟨b, 0, none⟩) n cap) n f (putF g (n - 1) (x + m)) w (.returned (.slice (some ⟨b, 0, none⟩) n cap)) (((w.alloc (.cells #[.int .i64 T, .int .i64 m] 50)).drewN k).setCell ⟨b, (n - 1) * 2 + 1, none⟩ (.int .i64 (x + m))) from
    ⟨_, rfl, (ho.kept (((Kept.refl (fun _ => False) w).alloc _).drewN k) (fun _ _ => id)).put n1 _, Kept.setCell (F := fun c => (Value.slice (some ⟨b, 0, none⟩) n cap).ownBlock = some c) (p := ⟨b, (n - 1) * 2 + 1, none⟩) (((Kept.refl _ w).alloc _).drewN k) (.inl rfl) _⟩)
  have e1 : ((n : Int) - 1).toNat = n - 1 := by omega
  have d0 : decide ((1 : Int) ≤ (n : Int)) = true := by simp; omega
  have d1 : (T == T) = true := by simp
  unfold maxLen at hc2
  clear hc hfr ho hT hgx
  go_enter Try.func26, Try.ntmps26
  go_wp2_with fail
  go_quiet (fail)
  go_wp2_with fail
  go_region
  go_wp2_with fail
  go_ret
  exact HE.out (nq + 1)
end Go.Proofs.Ytgdcgilhaedbmaa
