/- Why a policy can't be set, and why there is nothing to be got: the contracts of setCode and getCode. -/
import Derived.Test.YtgdcgilhaedbmacBk2
-- prune
namespace Go.Proofs.Ytgdcgilhaedbmac
open Go.ChangeShapes Go.WideShapes Go.ChangeAt Go.RowKit
set_option linter.unusedVariables false

theorem isId_any (r : Bool) (id : Int) (w : World) (hr : (0 ≤ id ∧ id < 8) ↔ r = true) : Calls Try.prog 30 #[.int .i64 id] w fun e w' => e = .returned (.bool r) ∧ w = w' := by
  by_cases h0 : 0 ≤ id
  · have d0 : decide (0 ≤ id) = true := by simp; omega
    by_cases h1 : id < 8
    · have d1 : decide (id < 8) = true := by simp; omega
      obtain rfl := hr.1 ⟨h0, h1⟩
      clear hr
      go_enter Try.func30, Try.ntmps30
      go_wp2
      go_ret
      exact ⟨rfl, rfl⟩
    · have d1 : decide (id < 8) = false := by simp; omega
      obtain rfl : r = false := by
        cases r with
        | false => rfl
        | true => have := hr.2 rfl; omega
      clear hr
      go_enter Try.func30, Try.ntmps30
      go_wp2
      go_ret
      exact ⟨rfl, rfl⟩
  · have d0 : decide (0 ≤ id) = false := by simp; omega
    obtain rfl : r = false := by
      cases r with
      | false => rfl
      | true => have := hr.2 rfl; omega
    clear hr
    go_enter Try.func30, Try.ntmps30
    go_wp2
    go_ret
    exact ⟨rfl, rfl⟩
/-- Why p can't be set. -/
def SetC (n : Nat) (L : Nat → Bk) (id k l v b c : Int) : Prop :=
  (c = 1 ∧ ¬ (MayBs n L ∧ (0 ≤ id ∧ id < 8) ∧ MayP k l v b)) ∨ (c = 4 ∧ MayBs n L ∧ (0 ≤ id ∧ id < 8) ∧ MayP k l v b ∧ (L id.toNat).n = 1073741824) ∨ (c = 0 ∧ MayBs n L ∧ (0 ≤ id ∧ id < 8) ∧ MayP k l v b ∧ (L id.toNat).n < 1073741824)
/-- Why nothing is got. -/
def GetC (n : Nat) (L : Nat → Bk) (id c : Int) : Prop :=
  (c = 1 ∧ ¬ (MayBs n L ∧ (0 ≤ id ∧ id < 8))) ∨ (c = 5 ∧ MayBs n L ∧ (0 ≤ id ∧ id < 8) ∧ (L id.toNat).on = false) ∨ (c = 0 ∧ MayBs n L ∧ (0 ≤ id ∧ id < 8) ∧ (L id.toNat).on = true)
theorem setC_ex (n : Nat) (L : Nat → Bk) (id k l v b : Int) : ∃ c, SetC n L id k l v b c := by
  by_cases h : MayBs n L ∧ (0 ≤ id ∧ id < 8) ∧ MayP k l v b
  · obtain ⟨h1, h2, h3⟩ := h
    have := (h1.2 id.toNat (by omega)).n1
    by_cases e : (L id.toNat).n = 1073741824
    · exact ⟨4, .inr (.inl ⟨rfl, h1, h2, h3, e⟩)⟩
    · exact ⟨0, .inr (.inr ⟨rfl, h1, h2, h3, by omega⟩)⟩
  · exact ⟨1, .inl ⟨rfl, h⟩⟩
theorem getC_ex (n : Nat) (L : Nat → Bk) (id : Int) : ∃ c, GetC n L id c := by
  by_cases h : MayBs n L ∧ (0 ≤ id ∧ id < 8)
  · cases e : (L id.toNat).on with
    | true => exact ⟨0, .inr (.inr ⟨rfl, h.1, h.2, e⟩)⟩
    | false => exact ⟨5, .inr (.inl ⟨rfl, h.1, h.2, e⟩)⟩
  · exact ⟨1, .inl ⟨rfl, h⟩⟩
/-- A policy in a new block. -/
structure PB (w0 : World) (k l v b : Int) (w : World) : Prop where
  p : Has w w0.heap.size 25 [.int .i64 k, .int .i64 l, .int .i64 v, .int .i64 b]
  be : Below w0.heap.size w0 w
theorem PB.made (w : World) (k l v b : Int) : PB w k l v b (w.alloc (.cells #[.int .i64 k, .int .i64 l, .int .i64 v, .int .i64 b] 25)) := ⟨Has.made w 25 [.int .i64 k, .int .i64 l, .int .i64 v, .int .i64 b], (Below.refl _ _).alloc (Nat.le_refl _) _⟩
theorem PB.step {w0 w w' : World} {k l v b : Int} (h : PB w0 k l v b w) (hb : Below w.heap.size w w') : PB w0 k l v b w' := ⟨h.p.below hb h.p.lt, h.be.trans (hb.mono h.be.size)⟩
theorem PB.four {w0 w : World} {k l v b : Int} (h : PB w0 k l v b w) : w.cell? ⟨w0.heap.size, 0, none⟩ = some (.int .i64 k) ∧ w.cell? ⟨w0.heap.size, 1, none⟩ = some (.int .i64 l) ∧ w.cell? ⟨w0.heap.size, 2, none⟩ = some (.int .i64 v) ∧ w.cell? ⟨w0.heap.size, 3, none⟩ = some (.int .i64 b) := ⟨h.p.cell 0, h.p.cell 1, h.p.cell 2, h.p.cell 3⟩

set_option maxRecDepth 100000 in
set_option maxHeartbeats 4000000 in
theorem setCode_any (A : Option Addr) (n cap : Nat) (L : Nat → Bk) (id k l v b c : Int) (w : World) (hh : BksAt w A n L) (hn : n ≤ 1000) (hc : SetC n L id k l v b c) :
    Calls Try.prog 27 #[.slice A n cap, .int .i64 id, .agg #[.int .i64 k, .int .i64 l, .int .i64 v, .int .i64 b]] w fun e w' => e = .returned (.int .i64 c) ∧ Below w.heap.size w w' := by
  have HP := Lib.hid (PB.made w k l v b)
  have HH := Lib.hid hh
  by_cases hm : MayBs n L
  · have MK := Lib.hid (fun u (hu : Below w.heap.size w u) => May_any true A n cap L u (hh.below hu) hn ⟨fun _ => rfl, fun _ => hm⟩)
    by_cases hi : 0 ≤ id ∧ id < 8
    · have IK := Lib.hid (fun u => isId_any true id u ⟨fun _ => rfl, fun _ => hi⟩)
      by_cases hp : MayP k l v b
      · have CK := Lib.hid (fun u => Check_yes k l v b u hp)
        have hcc : (c = 4 ∧ (L id.toNat).n = 1073741824) ∨ (c = 0 ∧ (L id.toNat).n < 1073741824) := by
          rcases hc with ⟨_, h⟩ | ⟨h, _, _, _, h2⟩ | ⟨h, _, _, _, h2⟩
          · exact absurd ⟨hm, hi, hp⟩ h
          · exact .inl ⟨h, h2⟩
          · exact .inr ⟨h, h2⟩
        obtain ⟨i, rfl⟩ : ∃ i : Nat, id = (i : Int) := ⟨id.toNat, by omega⟩
        obtain rfl : n = 8 := hm.1
        rw [Int.toNat_natCast] at hcc
        obtain ⟨b1, o1, rfl⟩ := HH.out.some (by omega)
        have HS := Lib.hid (HH.out.six (show i < 8 by omega))
        have B0 : (0 : Int) ≤ (i : Int) := by omega
        have B1 : (i : Int) < 8 := by omega
        obtain ⟨m, hmm⟩ : ∃ m, (L i).n = m := ⟨_, rfl⟩
        have HMM := Lib.hid hmm
        rw [hmm] at hcc
        clear hm hi hp hc hh hmm
        go_enter Try.func27, Try.ntmps27
        go_wp2_with fail
        refine (MK.out _ HP.out.be).mono ?_; rintro e w1 ⟨rfl, hb⟩
        have H1 := Lib.hid (HP.out.step hb)
        clear hb
        go_wp2_with fail
        refine (IK.out _).mono ?_; rintro e w' ⟨rfl, rfl⟩
        obtain ⟨p0, p1, p2, p3⟩ := H1.out.four
        go_wp2_with fail
        refine (CK.out _).mono ?_; rintro e w2 ⟨rfl, hb⟩
        have H2 := Lib.hid (H1.out.step hb)
        clear hb p0 p1 p2 p3
        have q5 := (HS.out.2.below HS.out.1 H2.out.be).2.2.2.2.2
        rw [HMM.out] at q5
        rcases hcc with ⟨rfl, h2⟩ | ⟨rfl, h2⟩
        · have d : (m == 1073741824) = true := by simp [h2]
          clear h2
          go_wp2_with fail
          go_ret
          exact ⟨rfl, H2.out.be⟩
        · have d : (m == 1073741824) = false := by simp; omega
          clear h2
          go_wp2_with fail
          go_ret
          exact ⟨rfl, H2.out.be⟩
      · have CK := Lib.hid (fun u => Check_no k l v b u hp)
        obtain rfl : c = 1 := by
          rcases hc with ⟨h, _⟩ | ⟨_, _, _, h, _⟩ | ⟨_, _, _, h, _⟩
          · exact h
          · exact absurd h hp
          · exact absurd h hp
        clear hm hi hp hc hh
        go_enter Try.func27, Try.ntmps27
        go_wp2_with fail
        refine (MK.out _ HP.out.be).mono ?_; rintro e w1 ⟨rfl, hb⟩
        have H1 := Lib.hid (HP.out.step hb)
        clear hb
        go_wp2_with fail
        refine (IK.out _).mono ?_; rintro e w' ⟨rfl, rfl⟩
        obtain ⟨p0, p1, p2, p3⟩ := H1.out.four
        go_wp2_with fail
        refine (CK.out _).mono ?_; rintro e w2 ⟨rfl, hb⟩
        have H2 := Lib.hid (H1.out.step hb)
        clear hb
        go_wp2_with fail
        go_ret
        exact ⟨rfl, H2.out.be⟩
    · have IK := Lib.hid (fun u => isId_any false id u ⟨fun q => absurd q hi, fun q => by cases q⟩)
      obtain rfl : c = 1 := by
        rcases hc with ⟨h, _⟩ | ⟨_, _, h, _⟩ | ⟨_, _, h, _⟩
        · exact h
        · exact absurd h hi
        · exact absurd h hi
      clear hm hi hc hh
      go_enter Try.func27, Try.ntmps27
      go_wp2_with fail
      refine (MK.out _ HP.out.be).mono ?_; rintro e w1 ⟨rfl, hb⟩
      have H1 := Lib.hid (HP.out.step hb)
      clear hb
      go_wp2_with fail
      refine (IK.out _).mono ?_; rintro e w' ⟨rfl, rfl⟩
      go_wp2_with fail
      go_ret
      exact ⟨rfl, H1.out.be⟩
  · have MK := Lib.hid (fun u (hu : Below w.heap.size w u) => May_any false A n cap L u (hh.below hu) hn ⟨fun q => absurd q hm, fun q => by cases q⟩)
    obtain rfl : c = 1 := by
      rcases hc with ⟨h, _⟩ | ⟨_, h, _⟩ | ⟨_, h, _⟩
      · exact h
      · exact absurd h hm
      · exact absurd h hm
    clear hm hc hh
    go_enter Try.func27, Try.ntmps27
    go_wp2_with fail
    refine (MK.out _ HP.out.be).mono ?_; rintro e w1 ⟨rfl, hb⟩
    have H1 := Lib.hid (HP.out.step hb)
    clear hb
    go_wp2_with fail
    go_ret
    exact ⟨rfl, H1.out.be⟩
set_option maxRecDepth 100000 in
set_option maxHeartbeats 4000000 in
theorem getCode_any (A : Option Addr) (n cap : Nat) (L : Nat → Bk) (id c : Int) (w : World) (hh : BksAt w A n L) (hn : n ≤ 1000) (hc : GetC n L id c) :
    Calls Try.prog 24 #[.slice A n cap, .int .i64 id] w fun e w' => e = .returned (.int .i64 c) ∧ Below w.heap.size w w' := by
  have HH := Lib.hid hh
  by_cases hm : MayBs n L
  · have MK := Lib.hid (May_any true A n cap L w hh hn ⟨fun _ => rfl, fun _ => hm⟩)
    by_cases hi : 0 ≤ id ∧ id < 8
    · have IK := Lib.hid (fun u => isId_any true id u ⟨fun _ => rfl, fun _ => hi⟩)
      have hcc : (c = 5 ∧ (L id.toNat).on = false) ∨ (c = 0 ∧ (L id.toNat).on = true) := by
        rcases hc with ⟨_, h⟩ | ⟨h, _, _, h2⟩ | ⟨h, _, _, h2⟩
        · exact absurd ⟨hm, hi⟩ h
        · exact .inl ⟨h, h2⟩
        · exact .inr ⟨h, h2⟩
      obtain ⟨i, rfl⟩ : ∃ i : Nat, id = (i : Int) := ⟨id.toNat, by omega⟩
      obtain rfl : n = 8 := hm.1
      rw [Int.toNat_natCast] at hcc
      obtain ⟨b1, o1, rfl⟩ := HH.out.some (by omega)
      have HS := Lib.hid (HH.out.six (show i < 8 by omega))
      have B0 : (0 : Int) ≤ (i : Int) := by omega
      have B1 : (i : Int) < 8 := by omega
      obtain ⟨m, hmm⟩ : ∃ m, (L i).on = m := ⟨_, rfl⟩
      have HMM := Lib.hid hmm
      rw [hmm] at hcc
      clear hm hi hc hh hmm
      go_enter Try.func24, Try.ntmps24
      go_wp2_with fail
      refine MK.out.mono ?_; rintro e w1 ⟨rfl, hb⟩
      have H1 := Lib.hid hb
      clear hb
      go_wp2_with fail
      refine (IK.out _).mono ?_; rintro e w' ⟨rfl, rfl⟩
      have q0 := (HS.out.2.below HS.out.1 H1.out).1
      rw [HMM.out] at q0
      rcases hcc with ⟨rfl, rfl⟩ | ⟨rfl, rfl⟩
      · go_wp2_with fail
        go_ret
        exact ⟨rfl, H1.out⟩
      · go_wp2_with fail
        go_ret
        exact ⟨rfl, H1.out⟩
    · have IK := Lib.hid (fun u => isId_any false id u ⟨fun q => absurd q hi, fun q => by cases q⟩)
      obtain rfl : c = 1 := by
        rcases hc with ⟨h, _⟩ | ⟨_, _, h, _⟩ | ⟨_, _, h, _⟩
        · exact h
        · exact absurd h hi
        · exact absurd h hi
      clear hm hi hc hh
      go_enter Try.func24, Try.ntmps24
      go_wp2_with fail
      refine MK.out.mono ?_; rintro e w1 ⟨rfl, hb⟩
      have H1 := Lib.hid hb
      clear hb
      go_wp2_with fail
      refine (IK.out _).mono ?_; rintro e w' ⟨rfl, rfl⟩
      go_wp2_with fail
      go_ret
      exact ⟨rfl, H1.out⟩
  · have MK := Lib.hid (May_any false A n cap L w hh hn ⟨fun q => absurd q hm, fun q => by cases q⟩)
    obtain rfl : c = 1 := by
      rcases hc with ⟨h, _⟩ | ⟨_, h, _⟩ | ⟨_, h, _⟩
      · exact h
      · exact absurd h hm
      · exact absurd h hm
    clear hm hc hh
    go_enter Try.func24, Try.ntmps24
    go_wp2_with fail
    refine MK.out.mono ?_; rintro e w1 ⟨rfl, hb⟩
    have H1 := Lib.hid hb
    clear hb
    go_wp2_with fail
    go_ret
    exact ⟨rfl, H1.out⟩
end Go.Proofs.Ytgdcgilhaedbmac
