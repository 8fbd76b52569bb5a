/- Which books are on, and what a number has; lists of numbers and of books that read alike. -/
import Derived.Test.YtgdcgilhaedbmacBk3
import Derived.Test.YtgdcgilhaedbmacOwn1
import Derived.Deep.QuietTactic
-- prune
namespace Go.Proofs.Ytgdcgilhaedbmac
open Go.ChangeShapes Go.WideShapes Go.ChangeAt Go.RowKit
set_option linter.unusedVariables false

theorem bdrewN {B : Nat} {w w' : World} (h : Below B w w') (m : Nat) : Below B w (w'.drewN m) := ⟨h.os, h.tape, h.output, h.size, h.block⟩
theorem infoI : (Try.prog.info? 3).map (fun i => (i.zero, i.size, i.bytes)) = some (some (.int .i64 0), 1, 8) := by kernel_rfl
/-- Numbers, as values. -/
def iv (zs : List Int) : List Value := zs.map (Value.int .i64)
theorem iv_len (zs : List Int) : (iv zs).length = zs.length := by simp [iv]
theorem iv_snoc (zs : List Int) (z : Int) : iv (zs ++ [z]) = iv zs ++ [.int .i64 z] := by simp [iv]
/-- A list of numbers reads as f. -/
def RdI (w : World) (A : Option Addr) (n : Nat) (f : Nat → Int) : Prop := 0 < n → ∃ b o, A = some ⟨b, o, none⟩ ∧ b < w.heap.size ∧ ∀ i, i < n → w.cell? ⟨b, o + i, none⟩ = some (.int .i64 (f i))
theorem RdI.below {w w' : World} {A : Option Addr} {n : Nat} {f : Nat → Int} (h : RdI w A n f) (hb : Below w.heap.size w w') : RdI w' A n f := fun h0 => by
  obtain ⟨b, o, e, hl, hc⟩ := h h0
  exact ⟨b, o, e, Nat.lt_of_lt_of_le hl hb.size, fun i hi => (hb.cell (p := ⟨b, o + i, none⟩) hl).trans (hc i hi)⟩
theorem Own1.rd {B : Nat} {w : World} {v : Value} {zs : List Int} (h : Own1 B 3 w v (iv zs)) : ∃ A cap, v = .slice A zs.length cap ∧ RdI w A zs.length (fun i => zs.getD i 0) := by
  by_cases h0 : zs = []
  · subst h0
    obtain ⟨A, cap, e⟩ := h.sl
    exact ⟨A, cap, e, fun q => absurd q (by simp)⟩
  · obtain ⟨g, cap, rest, e, _, hm, hh, hl⟩ := h.has (by intro e; apply h0; simpa [iv] using e)
    rw [iv_len] at e
    refine ⟨_, cap, e, fun _ => ⟨g, 0, rfl, hh.lt, fun i hi => ?_⟩⟩
    rw [Nat.zero_add, hh.cell i, List.getElem?_append_left (by rw [iv_len]; exact hi)]
    simp [iv, List.getD_eq_getElem?_getD, hi]
theorem Ints_eq (A1 A2 : Option Addr) (n c1 c2 : Nat) (f : Nat → Int) (w : World) (h1 : RdI w A1 n f) (h2 : RdI w A2 n f) (hn : n ≤ 1000) :
    Calls Try.prog 13 #[.slice A1 n c1, .slice A2 n c2] w fun e w' => e = .returned (.bool true) ∧ Below w.heap.size w w' := by
  have H1 := Lib.hid h1
  have H2 := Lib.hid h2
  clear h1 h2
  go_enter Try.func13, Try.ntmps13
  go_wp2_with fail
  go_loopw [5] (fun vi wr => ∃ i : Nat, i ≤ n ∧ vi = .int .i64 (i : Int) ∧ ∃ m, wr = w.drewN m) (fun vi _ => n - (intOf vi).toNat)
  case atStart => exact ⟨0, Nat.zero_le _, rfl, 0, rfl⟩
  case round =>
    obtain ⟨i, hi, rfl, m, rfl⟩ := hrel
    by_cases hlt : i < n
    · obtain ⟨b1, o1, rfl, hl1, hc1⟩ := H1.out (by omega)
      obtain ⟨b2, o2, rfl, hl2, hc2⟩ := H2.out (by omega)
      have d1 := hc1 i hlt
      have d2 := hc2 i hlt
      clear hc1 hc2
      generalize f i = z at d1 d2
      have B0 : (0 : Int) ≤ (i : Int) := by omega
      have B1 : (i : Int) < (n : Int) := by omega
      go_wp2_with fail
      go_quiet (fail)
      go_wp2_with fail
      go_roundw
      case rel => exact ⟨i + 1, by omega, by go_num, m + nq, rfl⟩
      case measure => simp [intOf]; omega
    · have e : i = n := by omega
      subst e
      go_wp2_with fail
      go_ret
      exact ⟨rfl, bdrewN (Below.refl _ _) m⟩
set_option maxRecDepth 100000 in
set_option maxHeartbeats 4000000 in
theorem Same_eq (A1 A2 : Option Addr) (n c1 c2 : Nat) (L : Nat → Bk) (w : World) (h1 : BksAt w A1 n L) (h2 : BksAt w A2 n L) (hn : n ≤ 1000) :
    Calls Try.prog 16 #[.slice A1 n c1, .slice A2 n c2] w fun e w' => e = .returned (.bool true) ∧ Below w.heap.size w w' := by
  have H1 := Lib.hid h1
  have H2 := Lib.hid h2
  clear h1 h2
  go_enter Try.func16, Try.ntmps16
  go_wp2_with fail
  go_loopw [5] (fun vi wr => ∃ i : Nat, i ≤ n ∧ vi = .int .i64 (i : Int) ∧ ∃ m, wr = w.drewN m) (fun vi _ => n - (intOf vi).toNat)
  case atStart => exact ⟨0, Nat.zero_le _, rfl, 0, rfl⟩
  case round =>
    obtain ⟨i, hi, rfl, m, rfl⟩ := hrel
    by_cases hlt : i < n
    · obtain ⟨b1, o1, rfl⟩ := H1.out.some (by omega)
      obtain ⟨b2, o2, rfl⟩ := H2.out.some (by omega)
      obtain ⟨_, x0, x1, x2, x3, x4, x5⟩ := H1.out.six hlt
      obtain ⟨_, y0, y1, y2, y3, y4, y5⟩ := H2.out.six hlt
      generalize L i = B at *
      obtain ⟨on, k, l, v, b, z⟩ := B
      simp only at x0 x1 x2 x3 x4 x5 y0 y1 y2 y3 y4 y5
      have B0 : (0 : Int) ≤ (i : Int) := by omega
      have B1 : (i : Int) < (n : Int) := by omega
      go_wp2_with fail
      go_quiet (fail)
      go_wp2_with fail
      go_roundw
      case rel => exact ⟨i + 1, by omega, by go_num, m + nq, rfl⟩
      case measure => simp [intOf]; omega
    · have e : i = n := by omega
      subst e
      go_wp2_with fail
      go_ret
      exact ⟨rfl, bdrewN (Below.refl _ _) m⟩
/-- The numbers of the books that are on, of the first n. -/
def liveL (L : Nat → Bk) : Nat → List Int
  | 0 => []
  | i + 1 => liveL L i ++ if (L i).on = true then [(i : Int)] else []
theorem liveL_len (L : Nat → Bk) (n : Nat) : (liveL L n).length ≤ n := by
  induction n with
  | zero => simp [liveL]
  | succ n ih => simp only [liveL, List.length_append]; split <;> simp <;> omega
/-- What Live tells. -/
def LivedI (n : Nat) (L : Nat → Bk) (w : World) (e : Ending) (w' : World) : Prop :=
  ∃ A cap, e = .returned (.slice A (liveL L n).length cap) ∧ RdI w' A (liveL L n).length (fun i => (liveL L n).getD i 0) ∧ Below w.heap.size w w'
set_option maxRecDepth 100000 in
set_option maxHeartbeats 4000000 in
theorem Live_any (A : Option Addr) (n c : Nat) (L : Nat → Bk) (w : World) (hh : BksAt w A n L) (hn : n ≤ 900) :
    Calls Try.prog 14 #[.slice A n c] w (LivedI n L w) := by
  have HH := Lib.hid hh
  clear hh
  go_enter Try.func14, Try.ntmps14
  go_wp2_with fail
  go_loopw [3, 8] (fun vv vi wr => ∃ i : Nat, i ≤ n ∧ vi = .int .i64 (i : Int) ∧ Own1 w.heap.size 3 wr vv (iv (liveL L i)) ∧ Below w.heap.size w wr) (fun _ vi _ => n - (intOf vi).toNat)
  case atStart => exact ⟨0, Nat.zero_le _, rfl, Own1.nil _ _ _, Below.refl _ _⟩
  case round =>
    obtain ⟨i, hi, rfl, ho, hr⟩ := hrel
    obtain ⟨AI, cI, rfl⟩ := ho.sl
    have hlen := liveL_len L i
    rw [iv_len] at ho ⊢
    have R1 := Lib.hid hr
    have O1 := Lib.hid ho
    clear hr ho
    by_cases hlt : i < n
    · obtain ⟨b1, o1, rfl⟩ := HH.out.some (by omega)
      obtain ⟨hl, hs⟩ := HH.out.six hlt
      obtain ⟨q0, q1, q2, q3, q4, q5⟩ := hs.below hl R1.out
      clear hs
      have HS := Lib.hid (show liveL L (i + 1) = liveL L i ++ if (L i).on = true then [(i : Int)] else [] from rfl)
      have B0 : (0 : Int) ≤ (i : Int) := by omega
      have B1 : (i : Int) < (n : Int) := by omega
      generalize L i = B at *
      obtain ⟨on, k, l, v, b, z⟩ := B
      simp only at q0 q1 q2 q3 q4 q5 HS
      have HB := Lib.hid (R1.out.alloc R1.out.size (.cells #[.bool on, .int .i64 k, .int .i64 l, .int .i64 v, .int .i64 b, .int .i64 z] 43))
      have HO := Lib.hid (O1.out.kept (Kept.of_below (F := fun _ => False) ((Below.refl _ _).alloc (Nat.le_refl _) (.cells #[.bool on, .int .i64 k, .int .i64 l, .int .i64 v, .int .i64 b, .int .i64 z] 43))) (fun _ _ => id))
      have R0 := Lib.hid R1.out.size
      clear R1 O1
      generalize hlz : (liveL L i).length = m at *
      have LN := Lib.hid (show (iv (liveL L i)).length = m by rw [iv_len]; exact hlz)
      clear hlz
      cases on
      · go_wp2_with fail
        go_roundw
        case rel => exact ⟨i + 1, by omega, by go_num, by rw [HS.out]; simpa using HO.out, HB.out⟩
        case measure => simp [intOf]; omega
      · go_wp2_with (at_builtin; refine wpList_append_own1 (wr.alloc (.cells #[.bool true, .int .i64 k, .int .i64 l, .int .i64 v, .int .i64 b, .int .i64 z] 43)) (wr.heap.size + 1) (by simp) rfl _ _ 31 rfl 3 (.int .i64 0) 8 Try.underlying31 infoI rfl (by decide) _ (.int .i64 (i : Int)) (iv (liveL L i)) m LN.out rfl rfl rfl HO.out (by have := R0.out; omega) (by omega) ?_)
        intro g7 cap7 w7 ho hk hg hgl
        have R7 := Lib.hid (HB.out.trans (hk.below HB.out.size (fun c hc e => by have := HO.out.ge e; omega)))
        have O7 := Lib.hid ho
        clear ho hk hg hgl
        go_wp2_with fail
        go_roundw
        case rel => exact ⟨i + 1, by omega, by go_num, by rw [HS.out, if_pos (by trivial), iv_snoc]; exact O7.out, R7.out⟩
        case measure => simp [intOf]; omega
    · have e : i = n := by omega
      subst e
      go_wp2_with fail
      go_ret
      obtain ⟨A', cap', e', hrd⟩ := O1.out.rd
      injection e' with e1 e2 e3
      subst e1 e3
      exact ⟨_, _, rfl, hrd, R1.out⟩
set_option maxRecDepth 100000 in
set_option maxHeartbeats 4000000 in
theorem rLive_any (A : Option Addr) (n c : Nat) (L : Nat → Bk) (w : World) (hh : BksAt w A n L) (hn : n ≤ 900) :
    Calls Try.prog 15 #[.slice A n c] w (LivedI n L w) := by
  have HH := Lib.hid hh
  clear hh
  go_enter Try.func15, Try.ntmps15
  go_wp2_with fail
  go_loopw [3, 4] (fun vv vi wr => ∃ i : Nat, i ≤ n ∧ vi = .int .i64 (i : Int) ∧ Own1 w.heap.size 3 wr vv (iv (liveL L i)) ∧ Below w.heap.size w wr) (fun _ vi _ => n - (intOf vi).toNat)
  case atStart => exact ⟨0, Nat.zero_le _, rfl, Own1.nil _ _ _, Below.refl _ _⟩
  case round =>
    obtain ⟨i, hi, rfl, ho, hr⟩ := hrel
    obtain ⟨AI, cI, rfl⟩ := ho.sl
    have hlen := liveL_len L i
    rw [iv_len] at ho ⊢
    have R1 := Lib.hid hr
    have O1 := Lib.hid ho
    clear hr ho
    by_cases hlt : i < n
    · obtain ⟨b1, o1, rfl⟩ := HH.out.some (by omega)
      obtain ⟨hl, hs⟩ := HH.out.six hlt
      obtain ⟨q0, q1, q2, q3, q4, q5⟩ := hs.below hl R1.out
      clear hs
      have HS := Lib.hid (show liveL L (i + 1) = liveL L i ++ if (L i).on = true then [(i : Int)] else [] from rfl)
      have B0 : (0 : Int) ≤ (i : Int) := by omega
      have B1 : (i : Int) < (n : Int) := by omega
      generalize L i = B at *
      obtain ⟨on, k, l, v, b, z⟩ := B
      simp only at q0 q1 q2 q3 q4 q5 HS
      generalize hlz : (liveL L i).length = m at *
      have LN := Lib.hid (show (iv (liveL L i)).length = m by rw [iv_len]; exact hlz)
      clear hlz
      cases on
      · go_wp2_with fail
        go_roundw
        case rel => exact ⟨i + 1, by omega, by go_num, by rw [HS.out]; simpa using O1.out, R1.out⟩
        case measure => simp [intOf]; omega
      · go_wp2_with (at_builtin; refine wpList_append_own1 wr _ rfl rfl _ _ 31 rfl 3 (.int .i64 0) 8 Try.underlying31 infoI rfl (by decide) _ (.int .i64 (i : Int)) (iv (liveL L i)) m LN.out rfl rfl rfl O1.out R1.out.size (by omega) ?_)
        intro g7 cap7 w7 ho hk hg hgl
        have R7 := Lib.hid (R1.out.trans (hk.below R1.out.size (fun c hc e => by have := O1.out.ge e; omega)))
        have O7 := Lib.hid ho
        clear ho hk hg hgl
        go_wp2_with fail
        go_roundw
        case rel => exact ⟨i + 1, by omega, by go_num, by rw [HS.out, if_pos (by trivial), iv_snoc]; exact O7.out, R7.out⟩
        case measure => simp [intOf]; omega
    · have e : i = n := by omega
      subst e
      go_wp2_with fail
      go_ret
      obtain ⟨A', cap', e', hrd⟩ := O1.out.rd
      injection e' with e1 e2 e3
      subst e1 e3
      exact ⟨_, _, rfl, hrd, R1.out⟩
end Go.Proofs.Ytgdcgilhaedbmac
