/- What a book's number has: the contracts of Get. -/
import Derived.Test.YtgdcgilhaedbmacBk4
import Derived.RegionTactic
import Derived.BigRegion
-- prune
namespace Go.Proofs.Ytgdcgilhaedbmac
open Go.ChangeShapes Go.WideShapes Go.ChangeAt Go.RowKit
set_option linter.unusedVariables false

theorem below_put4 {w0 w : World} (h : Below w0.heap.size w0 w) (a b c d : Value) : Below w0.heap.size w0 ((((w.setCell ⟨w0.heap.size, 0, none⟩ a).setCell ⟨w0.heap.size, 1, none⟩ b).setCell ⟨w0.heap.size, 2, none⟩ c).setCell ⟨w0.heap.size, 3, none⟩ d) :=
  (((h.setCell (p := ⟨_, 0, none⟩) (Nat.le_refl _) a).setCell (p := ⟨_, 1, none⟩) (Nat.le_refl _) b).setCell (p := ⟨_, 2, none⟩) (Nat.le_refl _) c).setCell (p := ⟨_, 3, none⟩) (Nat.le_refl _) d
/-- What is told of a book: all of it, or nothing. -/
def gotV (c : Int) (B : Bk) : Bk := if c = 0 then B else nilBk
set_option maxRecDepth 100000 in
set_option maxHeartbeats 4000000 in
theorem Get_any (A : Option Addr) (n cap : Nat) (L : Nat → Bk) (id c : Int) (w : World) (hh : BksAt w A n L) (hn : n ≤ 1000) (hc : GetC n L id c) :
    Calls Try.prog 9 #[.slice A n cap, .int .i64 id] w fun e w' => e = .returned (.tuple #[.agg #[.int .i64 (gotV c (L id.toNat)).k, .int .i64 (gotV c (L id.toNat)).l, .int .i64 (gotV c (L id.toNat)).v, .int .i64 (gotV c (L id.toNat)).b], .int .i64 (gotV c (L id.toNat)).n, .int .i64 c]) ∧ Below w.heap.size w w' := by
  have HP := Lib.hid (PB.made w 0 0 0 0)
  have HH := Lib.hid hh
  have GK := Lib.hid (fun u (hu : Below w.heap.size w u) => getCode_any A n cap L id c u (hh.below hu) hn hc)
  by_cases h0 : c = 0
  · subst h0
    have hcc : MayBs n L ∧ (0 ≤ id ∧ id < 8) := by
      rcases hc with ⟨h, _⟩ | ⟨h, _⟩ | ⟨_, h1, h2, _⟩
      · omega
      · omega
      · exact ⟨h1, h2⟩
    obtain ⟨i, rfl⟩ : ∃ i : Nat, id = (i : Int) := ⟨id.toNat, by omega⟩
    obtain rfl : n = 8 := hcc.1.1
    rw [Int.toNat_natCast]
    have hi := hcc.2
    obtain ⟨b1, o1, rfl⟩ := HH.out.some (by omega)
    have HS := Lib.hid (HH.out.six (show i < 8 by omega))
    have B0 : (0 : Int) ≤ (i : Int) := by omega
    have B1 : (i : Int) < 8 := by omega
    rw [show gotV 0 (L i) = L i from rfl]
    obtain ⟨B, hB⟩ : ∃ B, L i = B := ⟨_, rfl⟩
    rw [hB]
    have HBQ := Lib.hid hB
    clear hcc hc hh hB
    obtain ⟨on, k, l, v, b, m⟩ := B
    go_enter Try.func9, Try.ntmps9
    go_wp2_with fail
    refine (GK.out _ HP.out.be).mono ?_; rintro e w1 ⟨rfl, hb⟩
    have H1 := Lib.hid (HP.out.step hb)
    clear hb GK
    have hs := HS.out.2.below HS.out.1 H1.out.be
    rw [HBQ.out] at hs
    obtain ⟨q0, q1, q2, q3, q4, q5⟩ := hs
    simp only at q0 q1 q2 q3 q4 q5
    obtain ⟨p0, p1, p2, p3⟩ := H1.out.four
    have pf := H1.out.p.loose
    have hne : b1 ≠ w.heap.size := by have := HS.out.1; omega
    have HX := Lib.hid H1.out.be
    clear HH HS HP HBQ
    go_wp2_with fail
    go_region
    all_goals go_wp2_with fail
    all_goals refine bodyPost_ret (v := .tuple #[.agg #[.int .i64 k, .int .i64 l, .int .i64 v, .int .i64 b], .int .i64 m, .int .i64 0]) (by simp [results, Try.results9, go_sem, p0, p1, p2, p3]) rfl ⟨rfl, ?_⟩
    all_goals first | exact below_put4 HX.out _ _ _ _ | exact below_put4 HX.out.drew _ _ _ _ | repeat (first | with_reducible exact HX.out | with_reducible (refine Below.setCell ?_ (Nat.le_refl _) _) | with_reducible refine Below.drew ?_)
  · have hg : gotV c (L id.toNat) = nilBk := if_neg h0
    rw [hg]
    have d : (c != 0) = true := by simp [h0]
    clear hc hh h0 hg
    go_enter Try.func9, Try.ntmps9
    go_wp2_with fail
    refine (GK.out _ HP.out.be).mono ?_; rintro e w1 ⟨rfl, hb⟩
    have H1 := Lib.hid (HP.out.step hb)
    clear hb GK
    obtain ⟨p0, p1, p2, p3⟩ := H1.out.four
    have pf := H1.out.p.loose
    have HX := Lib.hid H1.out.be
    go_wp2_with fail
    refine bodyPost_ret (v := .tuple #[.agg #[.int .i64 0, .int .i64 0, .int .i64 0, .int .i64 0], .int .i64 0, .int .i64 c]) (by simp [results, Try.results9, go_sem, p0, p1, p2, p3]) rfl ⟨rfl, below_put4 HX.out _ _ _ _⟩
set_option maxRecDepth 100000 in
set_option maxHeartbeats 4000000 in
theorem rGet_any (A : Option Addr) (n cap : Nat) (L : Nat → Bk) (id c : Int) (w : World) (hh : BksAt w A n L) (hn : n ≤ 1000) (hc : GetC n L id c) :
    Calls Try.prog 10 #[.slice A n cap, .int .i64 id] w fun e w' => e = .returned (.tuple #[.agg #[.int .i64 (gotV c (L id.toNat)).k, .int .i64 (gotV c (L id.toNat)).l, .int .i64 (gotV c (L id.toNat)).v, .int .i64 (gotV c (L id.toNat)).b], .int .i64 (gotV c (L id.toNat)).n, .int .i64 c]) ∧ Below w.heap.size w w' := by
  have HP := Lib.hid (PB.made w 0 0 0 0)
  have HH := Lib.hid hh
  by_cases hm : MayBs n L
  · have MK := Lib.hid (fun u (hu : Below w.heap.size w u) => rMay_any true A n cap L u (hh.below hu) hn ⟨fun _ => rfl, fun _ => hm⟩)
    by_cases hi : 0 ≤ id ∧ id < 8
    · have hcc : (c = 5 ∧ (L id.toNat).on = false) ∨ (c = 0 ∧ (L id.toNat).on = true) := by
        rcases hc with ⟨_, h⟩ | ⟨h, _, _, h2⟩ | ⟨h, _, _, h2⟩
        · exact absurd ⟨hm, hi⟩ h
        · exact .inl ⟨h, h2⟩
        · exact .inr ⟨h, h2⟩
      obtain ⟨i, rfl⟩ : ∃ i : Nat, id = (i : Int) := ⟨id.toNat, by omega⟩
      obtain rfl : n = 8 := hm.1
      rw [Int.toNat_natCast] at hcc ⊢
      obtain ⟨b1, o1, rfl⟩ := HH.out.some (by omega)
      have HS := Lib.hid (HH.out.six (show i < 8 by omega))
      have B0 : (0 : Int) ≤ (i : Int) := by omega
      have B1 : (i : Int) < 8 := by omega
      obtain ⟨B, hB⟩ : ∃ B, L i = B := ⟨_, rfl⟩
      rw [hB] at hcc ⊢
      have HBQ := Lib.hid hB
      have d0 : decide ((i : Int) < 0) = false := by simp
      have d8 : decide ((8 : Int) ≤ (i : Int)) = false := by simp; omega
      clear hm hi hc hh hB
      obtain ⟨on, k, l, v, b, m⟩ := B
      simp only at hcc
      rcases hcc with ⟨rfl, rfl⟩ | ⟨rfl, rfl⟩
      · rw [show gotV 5 (Bk.mk false k l v b m) = nilBk from rfl]
        go_enter Try.func10, Try.ntmps10
        go_wp2_with fail
        refine (MK.out _ HP.out.be).mono ?_; rintro e w1 ⟨rfl, hb⟩
        have H1 := Lib.hid (HP.out.step hb)
        clear hb MK
        have hs := HS.out.2.below HS.out.1 H1.out.be
        rw [HBQ.out] at hs
        obtain ⟨q0, q1, q2, q3, q4, q5⟩ := hs
        simp only at q0 q1 q2 q3 q4 q5
        obtain ⟨p0, p1, p2, p3⟩ := H1.out.four
        have pf := H1.out.p.loose
        have HX := Lib.hid H1.out.be
        go_wp2_with fail
        refine bodyPost_ret (v := .tuple #[.agg #[.int .i64 0, .int .i64 0, .int .i64 0, .int .i64 0], .int .i64 0, .int .i64 5]) (by simp [results, Try.results10, go_sem, p0, p1, p2, p3]) rfl ⟨rfl, below_put4 HX.out _ _ _ _⟩
      · rw [show gotV 0 (Bk.mk true k l v b m) = Bk.mk true k l v b m from rfl]
        go_enter Try.func10, Try.ntmps10
        go_wp2_with fail
        refine (MK.out _ HP.out.be).mono ?_; rintro e w1 ⟨rfl, hb⟩
        have H1 := Lib.hid (HP.out.step hb)
        clear hb MK
        have hs := HS.out.2.below HS.out.1 H1.out.be
        rw [HBQ.out] at hs
        obtain ⟨q0, q1, q2, q3, q4, q5⟩ := hs
        simp only at q0 q1 q2 q3 q4 q5
        obtain ⟨p0, p1, p2, p3⟩ := H1.out.four
        have pf := H1.out.p.loose
        have HX := Lib.hid H1.out.be
        have hne : b1 ≠ w.heap.size := by have := HS.out.1; omega
        clear HH HS HP HBQ
        go_wp2_with fail
        go_region
        all_goals go_wp2_with fail
        all_goals refine bodyPost_ret (v := .tuple #[.agg #[.int .i64 k, .int .i64 l, .int .i64 v, .int .i64 b], .int .i64 m, .int .i64 0]) (by simp [results, Try.results10, go_sem, p0, p1, p2, p3]) rfl ⟨rfl, ?_⟩
        all_goals first | exact below_put4 HX.out _ _ _ _ | exact below_put4 HX.out.drew _ _ _ _ | repeat (first | with_reducible exact HX.out | with_reducible (refine Below.setCell ?_ (Nat.le_refl _) _) | with_reducible refine Below.drew ?_)
    · obtain rfl : c = 1 := by
        rcases hc with ⟨h, _⟩ | ⟨_, _, h, _⟩ | ⟨_, _, h, _⟩
        · exact h
        · exact absurd h hi
        · exact absurd h hi
      rw [show gotV 1 (L id.toNat) = nilBk from rfl]
      clear hm hc hh
      by_cases hl : id < 0
      · have d0 : decide (id < 0) = true := by simp; omega
        clear hi
        go_enter Try.func10, Try.ntmps10
        go_wp2_with fail
        refine (MK.out _ HP.out.be).mono ?_; rintro e w1 ⟨rfl, hb⟩
        have H1 := Lib.hid (HP.out.step hb)
        clear hb MK
        obtain ⟨p0, p1, p2, p3⟩ := H1.out.four
        have pf := H1.out.p.loose
        have HX := Lib.hid H1.out.be
        go_wp2_with fail
        refine bodyPost_ret (v := .tuple #[.agg #[.int .i64 0, .int .i64 0, .int .i64 0, .int .i64 0], .int .i64 0, .int .i64 1]) (by simp [results, Try.results10, go_sem, p0, p1, p2, p3]) rfl ⟨rfl, below_put4 HX.out _ _ _ _⟩
      · have d0 : decide (id < 0) = false := by simp; omega
        have d8 : decide (8 ≤ id) = true := by simp; omega
        clear hi
        go_enter Try.func10, Try.ntmps10
        go_wp2_with fail
        refine (MK.out _ HP.out.be).mono ?_; rintro e w1 ⟨rfl, hb⟩
        have H1 := Lib.hid (HP.out.step hb)
        clear hb MK
        obtain ⟨p0, p1, p2, p3⟩ := H1.out.four
        have pf := H1.out.p.loose
        have HX := Lib.hid H1.out.be
        go_wp2_with fail
        refine bodyPost_ret (v := .tuple #[.agg #[.int .i64 0, .int .i64 0, .int .i64 0, .int .i64 0], .int .i64 0, .int .i64 1]) (by simp [results, Try.results10, go_sem, p0, p1, p2, p3]) rfl ⟨rfl, below_put4 HX.out _ _ _ _⟩
  · have MK := Lib.hid (fun u (hu : Below w.heap.size w u) => rMay_any false A n cap L u (hh.below hu) hn ⟨fun q => absurd q hm, fun q => by cases q⟩)
    obtain rfl : c = 1 := by
      rcases hc with ⟨h, _⟩ | ⟨_, h, _⟩ | ⟨_, h, _⟩
      · exact h
      · exact absurd h hm
      · exact absurd h hm
    rw [show gotV 1 (L id.toNat) = nilBk from rfl]
    clear hm hc hh
    go_enter Try.func10, Try.ntmps10
    go_wp2_with fail
    refine (MK.out _ HP.out.be).mono ?_; rintro e w1 ⟨rfl, hb⟩
    have H1 := Lib.hid (HP.out.step hb)
    clear hb MK
    obtain ⟨p0, p1, p2, p3⟩ := H1.out.four
    have pf := H1.out.p.loose
    have HX := Lib.hid H1.out.be
    go_wp2_with fail
    refine bodyPost_ret (v := .tuple #[.agg #[.int .i64 0, .int .i64 0, .int .i64 0, .int .i64 0], .int .i64 0, .int .i64 1]) (by simp [results, Try.results10, go_sem, p0, p1, p2, p3]) rfl ⟨rfl, below_put4 HX.out _ _ _ _⟩
end Go.Proofs.Ytgdcgilhaedbmac
