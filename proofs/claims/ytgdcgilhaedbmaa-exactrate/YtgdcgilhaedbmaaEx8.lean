/- Exact's added: one more hit behind a row of a call's own. -/
import Derived.Test.YtgdcgilhaedbmaaEx7
import Derived.Deep.AppendLies
import Derived.BigQuiet
import Derived.RegionTactic
-- prune
namespace Go.Proofs.Ytgdcgilhaedbmaa
open Go.ChangeShapes Go.WideShapes Go.ChangeAt Go.RowKit
set_option linter.unusedVariables false

def mid (w : World) (T m : Int) (k : Nat) : World := ((w.alloc (.cells #[.int .i64 T, .int .i64 m] 50)).drewN k).alloc (.cells #[.int .i64 T, .int .i64 m] 50)
theorem mid_below (w : World) (T m : Int) (k : Nat) : Below w.heap.size w (mid w T m k) := by
  have h := (Below.refl w.heap.size w).alloc (Nat.le_refl _) (.cells #[.int .i64 T, .int .i64 m] 50)
  have h2 : Below w.heap.size w ((w.alloc (.cells #[.int .i64 T, .int .i64 m] 50)).drewN k) := ⟨h.os, h.tape, h.output, h.size, h.block⟩
  exact h2.alloc h.size _
theorem mid_cell (w : World) (T m : Int) (k j : Nat) (u : Value) (hj : [Value.int .i64 T, .int .i64 m][j]? = some u) : (mid w T m k).cell? ⟨w.heap.size + 1, j, none⟩ = some u := by
  unfold mid
  match j, hj with
  | 0, hj => injection hj with hj; subst hj; go_simp
  | 1, hj => injection hj with hj; subst hj; go_simp
  | j + 2, hj => simp at hj
set_option maxRecDepth 100000 in
set_option maxHeartbeats 4000000 in
theorem added_new (B : Nat) (vv : Value) (n : Nat) (f g : Nat → Int) (T m : Int) (w : World) (hB : B ≤ w.heap.size) (ho : OwnH B w vv n f g) (hn : n ≤ 64) (hne : n = 0 ∨ f (n - 1) ≠ T) :
    Calls Try.prog 26 #[vv, .agg #[.int .i64 T, .int .i64 m]] w (AddedH B vv (n + 1) (putF f n T) (putF g n m) w) := by
  have HE := Lib.hid (fun (k : Nat) (v' : Value) (w1 : World) (h1 : w1.ownsRow B 50 2 v' (n + 1) (hv f g n ++ [.int .i64 T, .int .i64 m])) (h2 : (mid w T m k).grownBy w1 vv.ownBlock) => show AddedH B vv (n + 1) (putF f n T) (putF g n m) w (.returned v') w1 from
    ⟨v', rfl, by unfold OwnH; rw [← hv_snoc]; exact h1, (Kept.of_below (mid_below w T m k)).grown h2 (fun g hg => .inl hg)⟩)
  have HO := Lib.hid (fun k => show (mid w T m k).ownsRow B 50 2 vv n (hv f g n) from ho.below (mid_below w T m k))
  have HN := Lib.hid (mid_cell w T m)
  have HB := Lib.hid (fun k => show B ≤ (mid w T m k).heap.size from Nat.le_trans hB (mid_below w T m k).size)
  obtain ⟨A, cap, rfl, hc1, hc2, hat⟩ := ho.at_
  obtain ⟨i0, hi, hz0, hz1, hz2⟩ := info_parts infoH
  have HI := Lib.hid (And.intro hi (And.intro hz0 (And.intro hz1 hz2)))
  have HH := Lib.hid hat
  unfold maxLen at hc2
  clear hi hz0 hz1 hz2 ho hat
  by_cases n0 : n = 0
  · subst n0
    clear hne
    go_enter Try.func26, Try.ntmps26
    go_wp2_with fail
    go_quiet (fail)
    go_wp2_with (first | (at_builtin; refine wpList_append_own _ rfl _ _ 25 rfl B 50 i0 (.agg #[.int .i64 0, .int .i64 0]) 2 16 Try.underlying25 HI.out.1 HI.out.2.1 HI.out.2.2.1 HI.out.2.2.2 rfl (by decide) _ 0 (hv f g 0) rfl (HO.out nq) _ 1 1 [.int .i64 T, .int .i64 m] rfl ?c1 ?c2 ?c3 ?c4 ?c5 ?c6 ?_))
    case c1 => rfl
    case c2 =>
      intro j u hj
      have e2 : (⟨w.heap.size + 1, 0, none⟩ : Addr).add j = ⟨w.heap.size + 1, j, none⟩ := by unfold Addr.add; split <;> simp_all
      rw [e2]
      exact HN.out nq j u hj
    case c3 => intro u hu; simp at hu; rcases hu with rfl | rfl <;> rfl
    case c4 => unfold maxLen; omega
    case c5 => omega
    case c6 => exact (HB.out nq)
    intro v' w1 hown' hgrow hnil
    have R := Lib.hid (HE.out nq v' w1 hown' hgrow)
    clear hown' hgrow hnil
    go_wp2
    go_ret
    exact R.out
  · obtain ⟨b, off, e, hb, hc⟩ := HH.out (by omega)
    subst e
    have hne := hne.resolve_left n0
    have hx := (hc (n - 1) (by omega)).1
    obtain ⟨y, hy⟩ : ∃ y, f (n - 1) = y := ⟨_, rfl⟩
    rw [hy] at hne hx
    have e1 : ((n : Int) - 1).toNat = n - 1 := by omega
    have d0 : decide ((1 : Int) ≤ (n : Int)) = true := by simp; omega
    have d1 : (y == T) = false := by simp; exact hne
    clear hc HH hy hne
    go_enter Try.func26, Try.ntmps26
    go_wp2_with fail
    go_quiet (fail)
    go_wp2_with (first | (at_builtin; refine wpList_append_own _ rfl _ _ 25 rfl B 50 i0 (.agg #[.int .i64 0, .int .i64 0]) 2 16 Try.underlying25 HI.out.1 HI.out.2.1 HI.out.2.2.1 HI.out.2.2.2 rfl (by decide) _ n (hv f g n) rfl (HO.out nq) _ 1 1 [.int .i64 T, .int .i64 m] rfl ?c1 ?c2 ?c3 ?c4 ?c5 ?c6 ?_))
    case c1 => rfl
    case c2 =>
      intro j u hj
      have e2 : (⟨w.heap.size + 1, 0, none⟩ : Addr).add j = ⟨w.heap.size + 1, j, none⟩ := by unfold Addr.add; split <;> simp_all
      rw [e2]
      exact HN.out nq j u hj
    case c3 => intro u hu; simp at hu; rcases hu with rfl | rfl <;> rfl
    case c4 => unfold maxLen; omega
    case c5 => omega
    case c6 => exact (HB.out nq)
    intro v' w1 hown' hgrow hnil
    have R := Lib.hid (HE.out nq v' w1 hown' hgrow)
    clear hown' hgrow hnil
    go_wp2
    go_ret
    exact R.out
end Go.Proofs.Ytgdcgilhaedbmaa
