/- The contracts of policy.Check, by what its kind's functions tell, and of Slot. WRITTEN BY gen_pol1.py. -/
import Derived.Test.YtgdcgilhaedbmacPol0
import Derived.Deep.DeepCutAuto
import Derived.Shelf.Abstract
-- prune
namespace Go.Proofs.Ytgdcgilhaedbmac
open Go.ChangeShapes Go.WideShapes Go.ChangeAt Go.RowKit
set_option linter.unusedVariables false

theorem below3 (w : World) (a b c : Obj) : Below w.heap.size w (((w.alloc a).alloc b).alloc c).drew :=
  ((((Below.refl _ _).alloc (Nat.le_refl _) a).alloc (by simp) b).alloc (by simp; omega) c).drew
/-- The policy lies in block w.heap.size, its kind's functions in block g. -/
def Mid (w : World) (k l v b : Int) (n0 n1 n2 g : Nat) (wx : World) : Prop :=
  wx.cell? ⟨g, 0, none⟩ = some (.func (.func n0) #[] #[]) ∧ wx.cell? ⟨g, 1, none⟩ = some (.func (.func n1) #[] #[]) ∧ wx.cell? ⟨g, 2, none⟩ = some (.func (.func n2) #[] #[]) ∧
  wx.cell? ⟨w.heap.size, 0, none⟩ = some (.int .i64 k) ∧ wx.cell? ⟨w.heap.size, 1, none⟩ = some (.int .i64 l) ∧ wx.cell? ⟨w.heap.size, 2, none⟩ = some (.int .i64 v) ∧ wx.cell? ⟨w.heap.size, 3, none⟩ = some (.int .i64 b) ∧ Below w.heap.size w wx

set_option maxRecDepth 100000 in
set_option maxHeartbeats 1000000 in
theorem Check_gy (n0 n1 n2 : Nat) (k l v b : Int) (w : World) (hi : ∀ u : World, (Instr.index 66 (.agg #[.nilFunc, .nilFunc, .nilFunc, .func (.func 36) #[] #[], .func (.func 37) #[] #[], .func (.func 38) #[] #[], .func (.func 36) #[] #[], .func (.func 37) #[] #[], .func (.func 38) #[] #[], .func (.func 36) #[] #[], .func (.func 39) #[] #[], .func (.func 40) #[] #[], .func (.func 41) #[] #[], .func (.func 37) #[] #[], .func (.func 38) #[] #[]]) (.int .i64 k)).run Try.prog u = .ok (.agg #[.func (.func n0) #[] #[], .func (.func n1) #[] #[], .func (.func n2) #[] #[]]) u)
    (h1 : 1 ≤ v) (h2 : v ≤ 1048576) (k1 : 1 ≤ k) (k2 : k ≤ 4) (e0 : Enters Try.prog n0) (e1 : Enters Try.prog n1) (q0 : ∀ u, Calls Try.prog n0 #[.int .i64 l] u fun e w' => e = .returned (.bool true) ∧ u = w') (q1 : ∀ u, Calls Try.prog n1 #[.agg #[.int .i64 k, .int .i64 l, .int .i64 v, .int .i64 b]] u fun e w' => e = .returned (.bool true) ∧ Below u.heap.size u w') :
    Calls Try.prog 32 #[.agg #[.int .i64 k, .int .i64 l, .int .i64 v, .int .i64 b]] w fun e w' => e = .returned (.int .i64 0) ∧ Below w.heap.size w w' := by
  go_enter Try.func32, Try.ntmps32
  go_upto_region 3 with (go_at_call 34; refine (win_yes _ _ _ _ (by omega) (by omega)).mono ?_; rintro e w' ⟨rfl, rfl⟩)
  go_cut [3] (fun s3 wx => ∃ g : Nat, s3 = .pointer (some ⟨g, 0, none⟩) ∧ Mid w k l v b n0 n1 n2 g wx)
  case first =>
    go_region_with (go_at_call 35; refine (kinds_any _).mono ?_; rintro e w1 ⟨rfl, rfl⟩)
    all_goals (go_wp2_with fail; go_meet)
    all_goals exact ⟨_, rfl, by unfold Mid; refine ⟨?_, ?_, ?_, ?_, ?_, ?_, ?_, below3 _ _ _ _⟩; all_goals (go_simp; done)⟩
  case rest =>
  obtain ⟨g, rfl, hm⟩ := hcut
  obtain ⟨c0, c1, c2, d0, d1, d2, d3, hb⟩ := hm
  have HB := Lib.hid hb
  clear hb hi
  unfold Enters at e0 e1
  go_wp2_with (first | (refine (q0 _).mono ?_; rintro e w' ⟨rfl, rfl⟩) | (refine (q1 _).mono ?_; rintro e w1 ⟨rfl, hb1⟩))
  go_ret
  exact ⟨rfl, HB.out.trans (hb1.mono HB.out.size)⟩

set_option maxRecDepth 100000 in
set_option maxHeartbeats 1000000 in
theorem Check_gb (n0 n1 n2 : Nat) (k l v b : Int) (w : World) (hi : ∀ u : World, (Instr.index 66 (.agg #[.nilFunc, .nilFunc, .nilFunc, .func (.func 36) #[] #[], .func (.func 37) #[] #[], .func (.func 38) #[] #[], .func (.func 36) #[] #[], .func (.func 37) #[] #[], .func (.func 38) #[] #[], .func (.func 36) #[] #[], .func (.func 39) #[] #[], .func (.func 40) #[] #[], .func (.func 41) #[] #[], .func (.func 37) #[] #[], .func (.func 38) #[] #[]]) (.int .i64 k)).run Try.prog u = .ok (.agg #[.func (.func n0) #[] #[], .func (.func n1) #[] #[], .func (.func n2) #[] #[]]) u)
    (h1 : 1 ≤ v) (h2 : v ≤ 1048576) (k1 : 1 ≤ k) (k2 : k ≤ 4) (e0 : Enters Try.prog n0) (e1 : Enters Try.prog n1) (q0 : ∀ u, Calls Try.prog n0 #[.int .i64 l] u fun e w' => e = .returned (.bool true) ∧ u = w') (q1 : ∀ u, Calls Try.prog n1 #[.agg #[.int .i64 k, .int .i64 l, .int .i64 v, .int .i64 b]] u fun e w' => e = .returned (.bool false) ∧ Below u.heap.size u w') :
    Calls Try.prog 32 #[.agg #[.int .i64 k, .int .i64 l, .int .i64 v, .int .i64 b]] w fun e w' => e = .returned (.int .i64 1) ∧ Below w.heap.size w w' := by
  go_enter Try.func32, Try.ntmps32
  go_upto_region 3 with (go_at_call 34; refine (win_yes _ _ _ _ (by omega) (by omega)).mono ?_; rintro e w' ⟨rfl, rfl⟩)
  go_cut [3] (fun s3 wx => ∃ g : Nat, s3 = .pointer (some ⟨g, 0, none⟩) ∧ Mid w k l v b n0 n1 n2 g wx)
  case first =>
    go_region_with (go_at_call 35; refine (kinds_any _).mono ?_; rintro e w1 ⟨rfl, rfl⟩)
    all_goals (go_wp2_with fail; go_meet)
    all_goals exact ⟨_, rfl, by unfold Mid; refine ⟨?_, ?_, ?_, ?_, ?_, ?_, ?_, below3 _ _ _ _⟩; all_goals (go_simp; done)⟩
  case rest =>
  obtain ⟨g, rfl, hm⟩ := hcut
  obtain ⟨c0, c1, c2, d0, d1, d2, d3, hb⟩ := hm
  have HB := Lib.hid hb
  clear hb hi
  unfold Enters at e0 e1
  go_wp2_with (first | (refine (q0 _).mono ?_; rintro e w' ⟨rfl, rfl⟩) | (refine (q1 _).mono ?_; rintro e w1 ⟨rfl, hb1⟩))
  go_ret
  exact ⟨rfl, HB.out.trans (hb1.mono HB.out.size)⟩

set_option maxRecDepth 100000 in
set_option maxHeartbeats 1000000 in
theorem Check_gl (n0 n1 n2 : Nat) (k l v b : Int) (w : World) (hi : ∀ u : World, (Instr.index 66 (.agg #[.nilFunc, .nilFunc, .nilFunc, .func (.func 36) #[] #[], .func (.func 37) #[] #[], .func (.func 38) #[] #[], .func (.func 36) #[] #[], .func (.func 37) #[] #[], .func (.func 38) #[] #[], .func (.func 36) #[] #[], .func (.func 39) #[] #[], .func (.func 40) #[] #[], .func (.func 41) #[] #[], .func (.func 37) #[] #[], .func (.func 38) #[] #[]]) (.int .i64 k)).run Try.prog u = .ok (.agg #[.func (.func n0) #[] #[], .func (.func n1) #[] #[], .func (.func n2) #[] #[]]) u)
    (h1 : 1 ≤ v) (h2 : v ≤ 1048576) (k1 : 1 ≤ k) (k2 : k ≤ 4) (e0 : Enters Try.prog n0) (q0 : ∀ u, Calls Try.prog n0 #[.int .i64 l] u fun e w' => e = .returned (.bool false) ∧ u = w') :
    Calls Try.prog 32 #[.agg #[.int .i64 k, .int .i64 l, .int .i64 v, .int .i64 b]] w fun e w' => e = .returned (.int .i64 1) ∧ Below w.heap.size w w' := by
  go_enter Try.func32, Try.ntmps32
  go_upto_region 3 with (go_at_call 34; refine (win_yes _ _ _ _ (by omega) (by omega)).mono ?_; rintro e w' ⟨rfl, rfl⟩)
  go_cut [3] (fun s3 wx => ∃ g : Nat, s3 = .pointer (some ⟨g, 0, none⟩) ∧ Mid w k l v b n0 n1 n2 g wx)
  case first =>
    go_region_with (go_at_call 35; refine (kinds_any _).mono ?_; rintro e w1 ⟨rfl, rfl⟩)
    all_goals (go_wp2_with fail; go_meet)
    all_goals exact ⟨_, rfl, by unfold Mid; refine ⟨?_, ?_, ?_, ?_, ?_, ?_, ?_, below3 _ _ _ _⟩; all_goals (go_simp; done)⟩
  case rest =>
  obtain ⟨g, rfl, hm⟩ := hcut
  obtain ⟨c0, c1, c2, d0, d1, d2, d3, hb⟩ := hm
  have HB := Lib.hid hb
  clear hb hi
  unfold Enters at e0
  go_wp2_with (first | (refine (q0 _).mono ?_; rintro e w' ⟨rfl, rfl⟩))
  go_ret
  exact ⟨rfl, HB.out⟩

theorem Check_out (k l v b : Int) (w : World) (h : ¬ (1 ≤ k ∧ k ≤ 4) ∨ ¬ (1 ≤ v ∧ v ≤ 1048576)) : Calls Try.prog 32 #[.agg #[.int .i64 k, .int .i64 l, .int .i64 v, .int .i64 b]] w fun e w' => e = .returned (.int .i64 1) ∧ Below w.heap.size w w' := by
  by_cases hk : 1 ≤ k ∧ k ≤ 4
  · have hv : ¬ (1 ≤ v ∧ v ≤ 1048576) := by rcases h with h | h; exact absurd hk h; exact h
    have h1 := Lib.hid (fun u => win_yes k 1 4 u hk.1 hk.2)
    have h2 := Lib.hid (fun u => win_no v 1 1048576 u hv)
    clear h hk hv
    go_enter Try.func32, Try.ntmps32
    go_wp2_with fail
    refine (h1.out _).mono ?_; rintro e w' ⟨rfl, rfl⟩
    go_wp2_with fail
    refine (h2.out _).mono ?_; rintro e w' ⟨rfl, rfl⟩
    go_wp2
    go_ret
    exact ⟨rfl, (Below.refl _ _).alloc (Nat.le_refl _) _⟩
  · have h1 := Lib.hid (fun u => win_no k 1 4 u hk)
    clear h hk
    go_enter Try.func32, Try.ntmps32
    go_wp2_with fail
    refine (h1.out _).mono ?_; rintro e w' ⟨rfl, rfl⟩
    go_wp2
    go_ret
    exact ⟨rfl, (Below.refl _ _).alloc (Nat.le_refl _) _⟩
/-- Whether a policy may be. -/
def MayP (k l v b : Int) : Prop := 1 ≤ k ∧ k ≤ 4 ∧ 1 ≤ v ∧ v ≤ 1048576 ∧ 1 ≤ l ∧ l ≤ 1048576 ∧ (k = 4 → l ≤ 16) ∧ (k ≠ 3 → b = 0) ∧ (k = 3 → 1 ≤ b ∧ b ≤ 16 ∧ v % b = 0)
instance (k l v b : Int) : Decidable (MayP k l v b) := by unfold MayP; infer_instance
theorem ent_any : Enters Try.prog 36 := enters_of Try.func36 (by kernel_rfl) rfl
theorem ent_small : Enters Try.prog 41 := enters_of Try.func41 (by kernel_rfl) rfl
theorem ent_no : Enters Try.prog 37 := enters_of Try.func37 (by kernel_rfl) rfl
theorem ent_even : Enters Try.prog 39 := enters_of Try.func39 (by kernel_rfl) rfl
theorem ent_whole : Enters Try.prog 38 := enters_of Try.func38 (by kernel_rfl) rfl
theorem ent_share : Enters Try.prog 40 := enters_of Try.func40 (by kernel_rfl) rfl

theorem Check_yes (k l v b : Int) (w : World) (h : MayP k l v b) : Calls Try.prog 32 #[.agg #[.int .i64 k, .int .i64 l, .int .i64 v, .int .i64 b]] w fun e w' => e = .returned (.int .i64 0) ∧ Below w.heap.size w w' := by
  obtain ⟨h1, h2, h3, h4, h5, h6, h7, h8, h9⟩ := h
  have hk : k = 1 ∨ k = 2 ∨ k = 3 ∨ k = 4 := by omega
  rcases hk with rfl | rfl | rfl | rfl
  · obtain rfl := h8 (by decide)
    exact Check_gy _ _ _ 1 l v 0 w kind1 h3 h4 h1 h2 ent_any ent_no (fun u => anyLimit_yes l u h5 h6) (fun u => noBuckets_yes 1 l v u)
  · obtain rfl := h8 (by decide)
    exact Check_gy _ _ _ 2 l v 0 w kind2 h3 h4 h1 h2 ent_any ent_no (fun u => anyLimit_yes l u h5 h6) (fun u => noBuckets_yes 2 l v u)
  · obtain ⟨a, c, d⟩ := h9 rfl
    exact Check_gy _ _ _ 3 l v b w kind3 h3 h4 h1 h2 ent_any ent_even (fun u => anyLimit_yes l u h5 h6) (fun u => evenBuckets_yes 3 l v b u a c h3 d)
  · obtain rfl := h8 (by decide)
    exact Check_gy _ _ _ 4 l v 0 w kind4 h3 h4 h1 h2 ent_small ent_no (fun u => smallLimit_yes l u h5 (h7 rfl)) (fun u => noBuckets_yes 4 l v u)
theorem Check_no (k l v b : Int) (w : World) (h : ¬ MayP k l v b) : Calls Try.prog 32 #[.agg #[.int .i64 k, .int .i64 l, .int .i64 v, .int .i64 b]] w fun e w' => e = .returned (.int .i64 1) ∧ Below w.heap.size w w' := by
  by_cases h0 : ¬ (1 ≤ k ∧ k ≤ 4) ∨ ¬ (1 ≤ v ∧ v ≤ 1048576)
  · exact Check_out k l v b w h0
  · have h1 : 1 ≤ k := by omega
    have h2 : k ≤ 4 := by omega
    have h3 : 1 ≤ v := by omega
    have h4 : v ≤ 1048576 := by omega
    unfold MayP at h
    have hk : k = 1 ∨ k = 2 ∨ k = 3 ∨ k = 4 := by omega
    rcases hk with rfl | rfl | rfl | rfl
    · by_cases hl : 1 ≤ l ∧ l ≤ 1048576
      · exact Check_gb _ _ _ 1 l v b w kind1 h3 h4 h1 h2 ent_any ent_no (fun u => anyLimit_yes l u hl.1 hl.2) (fun u => noBuckets_no 1 l v b u (by omega))
      · exact Check_gl _ _ _ 1 l v b w kind1 h3 h4 h1 h2 ent_any (fun u => anyLimit_no l u hl)
    · by_cases hl : 1 ≤ l ∧ l ≤ 1048576
      · exact Check_gb _ _ _ 2 l v b w kind2 h3 h4 h1 h2 ent_any ent_no (fun u => anyLimit_yes l u hl.1 hl.2) (fun u => noBuckets_no 2 l v b u (by omega))
      · exact Check_gl _ _ _ 2 l v b w kind2 h3 h4 h1 h2 ent_any (fun u => anyLimit_no l u hl)
    · by_cases hl : 1 ≤ l ∧ l ≤ 1048576
      · refine Check_gb _ _ _ 3 l v b w kind3 h3 h4 h1 h2 ent_any ent_even (fun u => anyLimit_yes l u hl.1 hl.2) (fun u => ?_)
        by_cases hb : 1 ≤ b ∧ b ≤ 16
        · exact evenBuckets_rem 3 l v b u hb.1 hb.2 h3 (fun e => h ⟨h1, h2, h3, h4, hl.1, hl.2, by omega, by omega, fun _ => ⟨hb.1, hb.2, e⟩⟩)
        · exact evenBuckets_out 3 l v b u hb
      · exact Check_gl _ _ _ 3 l v b w kind3 h3 h4 h1 h2 ent_any (fun u => anyLimit_no l u hl)
    · by_cases hl : 1 ≤ l ∧ l ≤ 16
      · exact Check_gb _ _ _ 4 l v b w kind4 h3 h4 h1 h2 ent_small ent_no (fun u => smallLimit_yes l u hl.1 hl.2) (fun u => noBuckets_no 4 l v b u (by omega))
      · exact Check_gl _ _ _ 4 l v b w kind4 h3 h4 h1 h2 ent_small (fun u => smallLimit_no l u hl)
end Go.Proofs.Ytgdcgilhaedbmac
