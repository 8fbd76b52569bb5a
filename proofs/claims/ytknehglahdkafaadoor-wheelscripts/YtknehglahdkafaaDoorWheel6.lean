/- The contract of the wheel's Add. -/
import Derived.Test.YtknehglahdkafaaDoorWheel5
import Derived.WalkSpells
namespace Go.Proofs.YtknehglahdkafaaDoor
open Go.ChangeShapes Go.WideShapes Go.ChangeAt Go.RowKit
set_option linter.unusedVariables false

theorem setPl_n (s : WS) (k : Int) (p : Int × Int × Int) : (s.setPl k p).n ≤ s.n + 1 := by show (if (s.pl k).isSome then s.n else s.n + 1) ≤ _; split <;> omega
theorem jA_n (s : WS) (i : Nat) (a b : Int) : (s.jA i a b).n ≤ s.n + 1 := by
  unfold WS.jA
  split
  · exact Nat.le_succ _
  · exact setPl_n _ _ _
theorem jB_n (s : WS) (i : Nat) (a b : Int) : (s.jB i a b).n ≤ s.n + 1 := by
  unfold WS.jB
  split
  · exact Nat.le_succ _
  · exact setPl_n _ _ _
theorem mark_n (s : WS) (i : Nat) : (s.mark i).n = s.n := by unfold WS.mark WS.setMask; rfl
theorem join_n (s : WS) (i : Nat) (a b : Int) : (s.join i a b).n ≤ s.n + 2 := by
  rw [WS.join, mark_n]
  have := jA_n s i a b
  have := jB_n (s.jA i a b) i a b
  omega
theorem drop_n (s : WS) (k : Int) : (s.drop k).n ≤ s.n + 2 := by
  unfold WS.drop
  split
  · omega
  · rename_i p _
    have := join_n (s.delPl k) p.1.toNat p.2.1 p.2.2
    have h2 : (s.delPl k).n ≤ s.n := by show (if (s.pl k).isSome then s.n - 1 else s.n) ≤ _; split <;> omega
    omega
theorem Drop_any (bP bM : Nat) (k : Int) (s : WS) (w : World) (h : IsWh w bP bM s) (hk : I64 k) (hs : s.Ok) (hn : s.n ≤ 100000) :
    Calls Tryd.prog 16 #[.pointer (some ⟨bP, 0, none⟩), .int .i64 k] w (WhTells bP bM (s.drop k) (.bool (s.pl k).isSome) w) := by
  cases hp : s.pl k with
  | none =>
    refine (Drop_no bP bM k s w h hk hp).mono ?_
    rintro e w1 ⟨rfl, hb⟩
    exact ⟨rfl, by unfold WS.drop; rw [hp]; exact h.below hb, Kept.of_below hb⟩
  | some p =>
    obtain ⟨x, a, b⟩ := p
    obtain ⟨⟨h1, h2⟩, h3, h4⟩ := hs.pl k _ hp
    obtain ⟨i, rfl⟩ := Int.eq_ofNat_of_zero_le h1
    exact Drop_yes bP bM k i a b s w h hk hp (by simp at h2; omega) h3 h4 hn
def WS.add (s : WS) (i : Nat) (k : Int) : WS :=
  let s2 := (s.drop k).setPl k ((i : Int), 0, 0)
  (s2.join i (s2.en.getD i (0, 0)).2 k).join i k (-1)
theorem Add_nil (a b : Int) (w : World) : Calls Tryd.prog 15 #[.pointer none, .int .i64 a, .int .i64 b] w fun e w' => e = .returned (.int .i64 1) ∧ w = w' := by
  go_enter Tryd.func15, Tryd.ntmps15
  go_wp2
  go_ret
  exact ⟨rfl, rfl⟩
theorem Add_bad (bP bM : Nat) (a b : Int) (s : WS) (w : World) (h : IsWh w bP bM s) (hh : ¬ (0 ≤ a ∧ a < 64 ∧ 0 ≤ b ∧ b ≤ 1048575)) :
    Calls Tryd.prog 15 #[.pointer (some ⟨bP, 0, none⟩), .int .i64 a, .int .i64 b] w fun e w' => e = .returned (.int .i64 1) ∧ w = w' := by
  have pM := h.pM
  have qT := fun u => run_eql_map_nil (P := Tryd.prog) u 49 _ _ (some bM) Tryd.underlying49
  simp only [Option.isNone_some] at qT
  clear h
  by_cases a1 : a < 0
  · clear hh
    go_enter Tryd.func15, Tryd.ntmps15
    go_wp2
    go_ret
    exact ⟨rfl, rfl⟩
  by_cases a2 : 64 ≤ a
  · clear hh
    go_enter Tryd.func15, Tryd.ntmps15
    go_wp2
    go_ret
    exact ⟨rfl, rfl⟩
  by_cases a3 : b < 0
  · clear hh
    go_enter Tryd.func15, Tryd.ntmps15
    go_wp2
    go_ret
    exact ⟨rfl, rfl⟩
  have a4 : 1048575 < b := by omega
  clear hh
  go_enter Tryd.func15, Tryd.ntmps15
  go_wp2
  go_ret
  exact ⟨rfl, rfl⟩
set_option maxRecDepth 100000 in
theorem Add_yes (bP bM i k : Nat) (s : WS) (w : World) (h : IsWh w bP bM s) (hi : i < 64) (hk : k ≤ 1048575) (hs : s.Ok) (hn : s.n ≤ 1000) (hen : I64 (((s.drop k).setPl k ((i : Int), 0, 0)).en.getD i (0, 0)).2) :
    Calls Tryd.prog 15 #[.pointer (some ⟨bP, 0, none⟩), .int .i64 (i : Int), .int .i64 (k : Int)] w (WhTells bP bM (s.add i k) (.int .i64 0) w) := by
  have KK := Lib.hid (show I64 (k : Int) by unfold I64; omega)
  have HD := Lib.hid (Drop_any bP bM k s w h KK.out hs (by omega))
  have HEN := Lib.hid hen
  have pM := h.pM
  have qT := fun u => run_eql_map_nil (P := Tryd.prog) u 49 _ _ (some bM) Tryd.underlying49
  simp only [Option.isNone_some] at qT
  obtain ⟨s1, hs1⟩ : ∃ s1, s.drop k = s1 := ⟨_, rfl⟩
  have HN1 := Lib.hid (show s1.n ≤ 1002 by rw [← hs1]; have := drop_n s k; omega)
  have HAD := Lib.hid (show s.add i k = ((s1.setPl k ((i : Int), 0, 0)).join i ((s1.setPl k ((i : Int), 0, 0)).en.getD i (0, 0)).2 k).join i k (-1) by unfold WS.add; rw [hs1])
  rw [hs1] at HD HEN
  have HI := Lib.hid hi
  clear h hs hn hen hs1
  go_enter Tryd.func15, Tryd.ntmps15
  go_wp2_with fail
  refine HD.out.mono ?_
  rintro e w1 ⟨rfl, h1, k1⟩
  have H1 := Lib.hid h1
  have K1 := Lib.hid k1
  have qM := h1.pM
  have qb := h1.hd.lt
  clear h1 k1 HD
  go_wp2_with (at_mapUpdate; refine wpList_mstore plE w1 rfl _ _ _ 49 56 rfl Tryd.underlying49 bM _ _ rfl H1.out.mp (by have := HN1.out; unfold maxLen; omega) k rfl KK.out ((i : Int), 0, 0) rfl (s1.setPl k ((i : Int), 0, 0)).n rfl ?_)
  intro w2 hm hkp hz
  obtain ⟨s2, hs2⟩ : ∃ s2, s1.setPl k ((i : Int), 0, 0) = s2 := ⟨_, rfl⟩
  have H2 := Lib.hid (H1.out.put (k := k) (p := ((i : Int), 0, 0)) hm hkp)
  have K2 := Lib.hid (two_trans K1.out (two_bM (F := fun _ => False) hkp))
  rw [hs2] at H2 HAD HEN
  have HN2 := Lib.hid (show s2.n ≤ 1003 by rw [← hs2]; have := setPl_n s1 k ((i : Int), 0, 0); have := HN1.out; omega)
  have rM := H2.out.pM
  have rb := H2.out.hd.lt
  have e1 := H2.out.e1 (en_at H2.out.le HI.out)
  clear hm hkp hz hs2
  generalize hl : (s2.en.getD i (0, 0)).2 = l at *
  clear hl
  go_wp2_with fail
  refine (join_any bP bM i l k s2 w2 H2.out HI.out HEN.out KK.out (by have := HN2.out; omega)).mono ?_
  rintro e w3 ⟨rfl, h3, k3⟩
  have H3 := Lib.hid h3
  have K3 := Lib.hid (two_trans K2.out k3)
  have HN3 := Lib.hid (show (s2.join i l k).n ≤ 1005 by have := join_n s2 i l k; have := HN2.out; omega)
  clear h3 k3
  go_wp2_with fail
  refine (join_any bP bM i k (-1) _ w3 H3.out HI.out KK.out (by unfold I64; omega) (by have := HN3.out; omega)).mono ?_
  rintro e w4 ⟨rfl, h4, k4⟩
  have R := Lib.hid (show WhTells bP bM (s.add i k) (.int .i64 0) w (.returned (.int .i64 0)) w4 from by rw [HAD.out]; exact ⟨rfl, h4, two_trans K3.out k4⟩)
  clear h4 k4
  go_wp2
  go_ret
  exact R.out
end Go.Proofs.YtknehglahdkafaaDoor
