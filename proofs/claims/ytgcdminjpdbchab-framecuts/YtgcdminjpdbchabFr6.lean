/- The document's pieces of all bytes. -/
import Derived.Test.YtgcdminjpdbchabFr4
import Derived.Test.YtgcdminjpdbchabNums4
import Derived.RegionTactic
namespace Go.Proofs.Ytgcdminjpdbchab
open Go.ChangeShapes Go.WideShapes Go.ChangeAt Go.RowKit
set_option linter.unusedVariables false

theorem infoPiece20 : (Try.prog.info? 39).map (fun i => (i.zero, i.size, i.bytes)) = some (some (.agg #[.string ⟨#[]⟩, .int .i64 0]), 2, 24) := by kernel_rfl
/-- What Pieces tells. -/
def PiecesT (c : ByteArray) (w : World) (e : Ending) (w' : World) : Prop := ∃ pv, e = .returned (.tuple #[pv, .int .i64 ((parseL c.data.toList).2 : Int)]) ∧ OwnPr w.heap.size 39 w' pv (parseL c.data.toList).1 ∧ Below w.heap.size w w'
/-- At byte i. -/
structure ParI (w : World) (c : ByteArray) (i : Nat) (l : List Pc) (pv : Value) (wr : World) : Prop where
  p : OwnPr w.heap.size 39 wr pv l
  b : Below w.heap.size w wr
  e1 : (parseL c.data.toList).1 = l ++ (parseL (c.data.toList.drop i)).1
  e2 : (parseL c.data.toList).2 = (parseL (c.data.toList.drop i)).2
  le : l.length ≤ i
theorem drop_two (c : ByteArray) (i : Nat) (h : i + 1 < c.size) : c.data.toList.drop i = c[i] :: c[i + 1] :: c.data.toList.drop (i + 2) := by
  have h0 : i < c.data.toList.length := by rw [Array.length_toList]; have : c.size = c.data.size := rfl; omega
  have h1 : i + 1 < c.data.toList.length := by rw [Array.length_toList]; have : c.size = c.data.size := rfl; omega
  rw [List.drop_eq_getElem_cons h0, List.drop_eq_getElem_cons h1]
  rfl
theorem drop_len (c : ByteArray) (i : Nat) : (c.data.toList.drop i).length = c.size - i := by rw [List.length_drop, Array.length_toList]; rfl
theorem parse_short (l : List UInt8) (h : l.length < 2) : parseL l = ([], l.length) := by
  match l, h with
  | [], _ => exact parse_0
  | [a], _ => exact parse_1 a
/-- A frame that is not good. -/
theorem ParI.bad {w wr w' : World} {c : ByteArray} {i : Nat} {l : List Pc} {pv pv' : Value} (h : ParI w c i l pv wr) (hi : i + 1 < c.size) (hg : ¬ (1 ≤ lenN c[i] c[i + 1] ∧ lenN c[i] c[i + 1] ≤ 512)) (ho : OwnPr w.heap.size 39 w' pv' (l ++ [bigP])) (hb : Below w.heap.size w w') : ParI w c (i + 2 + lenN c[i] c[i + 1]) (l ++ [bigP]) pv' w' := by
  have hgN : goodN (lenN c[i] c[i + 1]) ≠ true := by unfold goodN; simp; intro q; omega
  have e : parseL (c.data.toList.drop i) = (bigP :: (parseL (c.data.toList.drop (i + 2 + lenN c[i] c[i + 1]))).1, (parseL (c.data.toList.drop (i + 2 + lenN c[i] c[i + 1]))).2) := by
    rw [drop_two c i hi, parse_2, if_neg hgN, List.drop_drop]
  refine ⟨ho, hb, by rw [h.e1, e]; simp, by rw [h.e2, e], ?_⟩
  have := h.le
  simp; omega
/-- A text. -/
theorem ParI.text {w wr w' : World} {c : ByteArray} {i : Nat} {l : List Pc} {pv pv' : Value} (h : ParI w c i l pv wr) (hi : i + 1 < c.size) (hg : 1 ≤ lenN c[i] c[i + 1] ∧ lenN c[i] c[i + 1] ≤ 512) (hs : i + 2 + lenN c[i] c[i + 1] ≤ c.size) (ho : OwnPr w.heap.size 39 w' pv' (l ++ [textP ((c.data.toList.drop (i + 2)).take (lenN c[i] c[i + 1]))])) (hb : Below w.heap.size w w') :
    ParI w c (i + 2 + lenN c[i] c[i + 1]) (l ++ [textP ((c.data.toList.drop (i + 2)).take (lenN c[i] c[i + 1]))]) pv' w' := by
  have hgN : goodN (lenN c[i] c[i + 1]) = true := by unfold goodN; simp; exact hg
  have hl : ¬ (c.data.toList.drop (i + 2)).length < lenN c[i] c[i + 1] := by rw [drop_len]; omega
  have e : parseL (c.data.toList.drop i) = (textP ((c.data.toList.drop (i + 2)).take (lenN c[i] c[i + 1])) :: (parseL (c.data.toList.drop (i + 2 + lenN c[i] c[i + 1]))).1, (parseL (c.data.toList.drop (i + 2 + lenN c[i] c[i + 1]))).2) := by
    rw [drop_two c i hi, parse_2, if_pos hgN, if_neg hl, List.drop_drop]
  refine ⟨ho, hb, by rw [h.e1, e]; simp, by rw [h.e2, e], ?_⟩
  have := h.le
  simp; omega
/-- Where it ends. -/
theorem ParI.cut {w wr : World} {c : ByteArray} {i : Nat} {l : List Pc} {pv : Value} (h : ParI w c i l pv wr) (hi : i + 1 < c.size) (hg : 1 ≤ lenN c[i] c[i + 1] ∧ lenN c[i] c[i + 1] ≤ 512) (hs : c.size < i + 2 + lenN c[i] c[i + 1]) : (parseL c.data.toList).1 = l ∧ (parseL c.data.toList).2 = c.size - i := by
  have hgN : goodN (lenN c[i] c[i + 1]) = true := by unfold goodN; simp; exact hg
  have hl : (c.data.toList.drop (i + 2)).length < lenN c[i] c[i + 1] := by rw [drop_len]; omega
  have e : parseL (c.data.toList.drop i) = ([], c.size - i) := by
    rw [drop_two c i hi, parse_2, if_pos hgN, if_pos hl, drop_len]
    congr 1; omega
  exact ⟨by rw [h.e1, e]; simp, by rw [h.e2, e]⟩
theorem ParI.short {w wr : World} {c : ByteArray} {i : Nat} {l : List Pc} {pv : Value} (h : ParI w c i l pv wr) (hi : c.size < i + 2) : (parseL c.data.toList).1 = l ∧ (parseL c.data.toList).2 = c.size - i := by
  have e : parseL (c.data.toList.drop i) = ([], c.size - i) := by rw [parse_short _ (by rw [drop_len]; omega), drop_len]
  exact ⟨by rw [h.e1, e]; simp, by rw [h.e2, e]⟩
theorem run_sub3 (s : ByteArray) (n k : Nat) (h : n + 2 + k ≤ s.size) (W : World) :
    (Instr.slice 9 (.string s) (some (.int .i64 ((n : Int) + 2))) (some (.int .i64 ((n : Int) + 2 + (k : Int)))) none).run Try.prog W = .ok (.string (textP ((s.data.toList.drop (n + 2)).take k)).1) W := by
  have h1 := run_sub (P := Try.prog) Try.underlying9 s (n + 2) k h W
  have e : s.extract (n + 2) (n + 2 + k) = (textP ((s.data.toList.drop (n + 2)).take k)).1 := by
    unfold textP
    apply ByteArray.ext
    apply Array.ext'
    rw [sub_list]
  rw [e] at h1
  exact h1
theorem wrap_j {x : Int} (h1 : -9223372036854775808 ≤ x) (h2 : x < 9223372036854775808) : IntKind.i64.wrap x = x := by
  rw [IntKind.wrap_i64]; omega
theorem ParI.past {w wr : World} {c : ByteArray} {i : Nat} {l : List Pc} {pv : Value} (h : ParI w c i l pv wr) (hi : c.size < i) : (parseL c.data.toList).1 = l ∧ (parseL c.data.toList).2 = 0 := by
  have e : parseL (c.data.toList.drop i) = ([], 0) := by rw [parse_short _ (by rw [drop_len]; omega), drop_len]; congr 1; omega
  exact ⟨by rw [h.e1, e]; simp, by rw [h.e2, e]⟩
set_option maxRecDepth 100000 in
set_option maxHeartbeats 1000000 in
theorem Pieces_any (w : World) (c : ByteArray) (hc : c.size ≤ 20000) : Calls Try.prog 9 #[.string c] w (PiecesT c w) := by
  have HI := Lib.hid (show ParI w c 0 [] (.slice none 0 0) w from ⟨OwnPr.nil _ _ _, Below.refl _ _, by simp, by simp, Nat.le_refl _⟩)
  go_enter Try.func9, Try.ntmps9
  go_wp2_with fail
  go_loopw [4, 5] (fun pv i wr => ∃ (j : Nat) (l : List Pc), j ≤ c.size ∧ i = .int .i64 (j : Int) ∧ Hid (ParI w c j l pv wr)) (fun _ i _ => c.size - (intOf i).toNat)
  case atStart => exact ⟨0, [], Nat.zero_le _, rfl, HI⟩
  case round =>
    obtain ⟨j, l, hj, rfl, HIr⟩ := hrel
    clear HI
    by_cases h2 : j + 1 < c.size
    · have q1 : (2 : Int) ≤ (c.size : Int) - (j : Int) := by omega
      have q2 : decide ((2 : Int) ≤ (c.size : Int) - (j : Int)) = true := decide_eq_true q1
      have q3 : j < c.size := by omega
      have q4 : (j : Int) + 1 < (c.size : Int) := by omega
      have w1 : IntKind.i64.wrap ((j : Int) + 1) = (j : Int) + 1 := wrap_j (by omega) (by omega)
      have w2 : (0 : Int) ≤ (j : Int) + 1 := by omega
      have w3 : ((j : Int) + 1).toNat = j + 1 := by omega
      go_wp2_with fail
      go_region
      have EV : wrap64 (wrap64 (256 * wrap64 (c[j].toNat : Int)) + wrap64 (c[j + 1].toNat : Int)) = ((lenN c[j] c[j + 1] : Nat) : Int) := by
        have h1 := c[j].toNat_lt
        have h2 := c[j + 1].toNat_lt
        unfold wrap64 lenN
        omega
      rw [EV]
      clear EV
      have hn := lenN_lt c[j] c[j + 1]
      obtain ⟨n, en⟩ : ∃ n, lenN c[j] c[j + 1] = n := ⟨_, rfl⟩
      rw [en] at hn ⊢
      generalize (c[j].toNat : Int) = z1
      generalize (c[j + 1].toNat : Int) = z2
      clear w1 w2 w3 q1 q2 q4
      have EN := Lib.hid en
      obtain ⟨q, hq⟩ : ∃ q, l.length = q := ⟨_, rfl⟩
      have q1 : q ≤ j := by rw [← hq]; exact HIr.out.le
      clear en
      by_cases hg : 1 ≤ n ∧ n ≤ 512
      · have HG := Lib.hid hg
        have d1 : decide ((n : Int) < 1) = false := decide_eq_false (by omega)
        have d2 : ¬ (n : Int) < 1 := by omega
        have d3 : decide ((512 : Int) < n) = false := decide_eq_false (by omega)
        have d4 : ¬ (512 : Int) < n := by omega
        clear hg
        by_cases hs : c.size < j + 2 + n
        · have r1 : decide ((c.size : Int) - (j : Int) - 2 < (n : Int)) = true := decide_eq_true (by omega)
          have r2 : (c.size : Int) - (j : Int) - 2 < (n : Int) := by omega
          have HY := Lib.hid (HIr.out.cut h2 (by rw [EN.out]; exact HG.out) (by rw [EN.out]; exact hs))
          clear EN HG hq
          go_wp2
          go_ret2
          exact ⟨_, by rw [HY.out.2]; exact congrArg (fun z => Ending.returned (.tuple #[u4, .int .i64 z])) (by omega), by rw [HY.out.1]; exact HIr.out.p, HIr.out.b.drew⟩
        · have r1 : decide ((c.size : Int) - (j : Int) - 2 < (n : Int)) = false := decide_eq_false (by omega)
          have r2 : ¬ (c.size : Int) - (j : Int) - 2 < (n : Int) := by omega
          have HR := run_sub3 c j n (by omega)
          have HK := Lib.hid (show l.length + [(textP ((c.data.toList.drop (j + 2)).take n))].length = q + 1 by rw [hq]; rfl)
          have HO := Lib.hid (HIr.out.p.kept (Kept.of_below (F := fun _ => False) ((Below.refl _ wr).drew.alloc (Nat.le_refl _) (.cells #[.string (textP ((c.data.toList.drop (j + 2)).take n)).1, .int .i64 0] 39))) (fun _ _ q => q))
          have HL := Lib.hid (PrAt.lit (p := (textP ((c.data.toList.drop (j + 2)).take n))) (Has.made wr.drew 39 [.string (textP ((c.data.toList.drop (j + 2)).take n)).1, .int .i64 0]))
          have HB := Lib.hid (show w.heap.size ≤ (wr.drew.alloc (.cells #[.string (textP ((c.data.toList.drop (j + 2)).take n)).1, .int .i64 0] 39)).heap.size from by have := HIr.out.b.size; simp; omega)
          have HBB := Lib.hid (HIr.out.b.drew.alloc (show w.heap.size ≤ wr.heap.size from HIr.out.b.size) (.cells #[.string (textP ((c.data.toList.drop (j + 2)).take n)).1, .int .i64 0] 39))
          have HF := Lib.hid (fun b (e : u4.ownBlock = some b) => (owns_lt HIr.out.p e).1)
          clear hq
          go_wp2_with (at_builtin; refine wpList_append_pr w.heap.size Try.underlying27 infoPiece20 (wr.drew.alloc (.cells #[.string (textP ((c.data.toList.drop (j + 2)).take n)).1, .int .i64 0] 39)) rfl _ _ rfl u4 l [(textP ((c.data.toList.drop (j + 2)).take n))] (some ⟨wr.heap.size, 0, none⟩) 1 1 (q + 1) HK.out rfl rfl rfl HO.out HL.out HB.out (by omega) ?_)
          intro A' cap w5 ho hk hfr
          have HB5 := Lib.hid (HBB.out.trans (hk.below (B := w.heap.size) HB.out (fun b hb e => absurd (HF.out b e) (by omega))))
          have HZ := Lib.hid (show ParI w c (j + 2 + n) (l ++ [(textP ((c.data.toList.drop (j + 2)).take n))]) (.slice A' (q + 1) cap) w5 by
            have := HIr.out.text (pv' := .slice A' (q + 1) cap) (w' := w5) h2 (by rw [EN.out]; exact HG.out) (by rw [EN.out]; omega) (by rw [EN.out]; exact ho) HB5.out
            rw [EN.out] at this
            exact this)
          clear ho hk hfr HK HO HL HB HBB HF HB5 HG HR HIr EN
          go_wp2
          go_roundw
          case rel => exact ⟨j + 2 + n, _, by omega, by go_num, HZ⟩
          case measure => simp [intOf]; omega
      · have HG := Lib.hid hg
        have g1 : n < 1 ∨ 512 < n := by omega
        clear hg
        rcases g1 with g1 | g1
        · have d1 : decide ((n : Int) < 1) = true := decide_eq_true (by omega)
          have d2 : (n : Int) < 1 := by omega
          have HK := Lib.hid (show l.length + [bigP].length = q + 1 by rw [hq]; rfl)
          have HO := Lib.hid (HIr.out.p.kept (Kept.of_below (F := fun _ => False) ((Below.refl _ wr).drew.alloc (Nat.le_refl _) (.cells #[.string ⟨#[]⟩, .int .i64 8] 39))) (fun _ _ q => q))
          have HL := Lib.hid (PrAt.lit (p := bigP) (Has.made wr.drew 39 [.string ⟨#[]⟩, .int .i64 8]))
          have HB := Lib.hid (show w.heap.size ≤ (wr.drew.alloc (.cells #[.string ⟨#[]⟩, .int .i64 8] 39)).heap.size from by have := HIr.out.b.size; simp; omega)
          have HBB := Lib.hid (HIr.out.b.drew.alloc (show w.heap.size ≤ wr.heap.size from HIr.out.b.size) (.cells #[.string ⟨#[]⟩, .int .i64 8] 39))
          have HF := Lib.hid (fun b (e : u4.ownBlock = some b) => (owns_lt HIr.out.p e).1)
          clear hq
          go_wp2_with (at_builtin; refine wpList_append_pr w.heap.size Try.underlying27 infoPiece20 (wr.drew.alloc (.cells #[.string ⟨#[]⟩, .int .i64 8] 39)) rfl _ _ rfl u4 l [bigP] (some ⟨wr.heap.size, 0, none⟩) 1 1 (q + 1) HK.out rfl rfl rfl HO.out HL.out HB.out (by omega) ?_)
          intro A' cap w5 ho hk hfr
          have HB5 := Lib.hid (HBB.out.trans (hk.below (B := w.heap.size) HB.out (fun b hb e => absurd (HF.out b e) (by omega))))
          have HZ := Lib.hid (show ParI w c (j + 2 + n) (l ++ [bigP]) (.slice A' (q + 1) cap) w5 by
            have := HIr.out.bad (pv' := .slice A' (q + 1) cap) (w' := w5) h2 (by rw [EN.out]; exact HG.out) ho HB5.out
            rw [EN.out] at this
            exact this)
          clear ho hk hfr HK HO HL HB HBB HF HB5 HG
          by_cases hp : c.size < j + 2 + n
          · have r1 : decide ((c.size : Int) < (j : Int) + 2 + (n : Int)) = true := decide_eq_true (by omega)
            have r2 : (c.size : Int) < (j : Int) + 2 + (n : Int) := by omega
            have HY := Lib.hid (HZ.out.past hp)
            clear HIr EN
            go_wp2
            go_ret2
            exact ⟨.slice A' (q + 1) cap, by rw [HY.out.2]; rfl, by rw [HY.out.1]; exact HZ.out.p, HZ.out.b⟩
          · have r1 : decide ((c.size : Int) < (j : Int) + 2 + (n : Int)) = false := decide_eq_false (by omega)
            have r2 : ¬ (c.size : Int) < (j : Int) + 2 + (n : Int) := by omega
            clear HIr EN
            go_wp2
            go_roundw
            case rel => exact ⟨j + 2 + n, _, by omega, by go_num, HZ⟩
            case measure => simp [intOf]; omega
        · have d1 : decide ((n : Int) < 1) = false := decide_eq_false (by omega)
          have d2 : ¬ (n : Int) < 1 := by omega
          have d3 : decide ((512 : Int) < n) = true := decide_eq_true (by omega)
          have d4 : (512 : Int) < n := by omega
          have HK := Lib.hid (show l.length + [bigP].length = q + 1 by rw [hq]; rfl)
          have HO := Lib.hid (HIr.out.p.kept (Kept.of_below (F := fun _ => False) ((Below.refl _ wr).drew.alloc (Nat.le_refl _) (.cells #[.string ⟨#[]⟩, .int .i64 8] 39))) (fun _ _ q => q))
          have HL := Lib.hid (PrAt.lit (p := bigP) (Has.made wr.drew 39 [.string ⟨#[]⟩, .int .i64 8]))
          have HB := Lib.hid (show w.heap.size ≤ (wr.drew.alloc (.cells #[.string ⟨#[]⟩, .int .i64 8] 39)).heap.size from by have := HIr.out.b.size; simp; omega)
          have HBB := Lib.hid (HIr.out.b.drew.alloc (show w.heap.size ≤ wr.heap.size from HIr.out.b.size) (.cells #[.string ⟨#[]⟩, .int .i64 8] 39))
          have HF := Lib.hid (fun b (e : u4.ownBlock = some b) => (owns_lt HIr.out.p e).1)
          clear hq
          go_wp2_with (at_builtin; refine wpList_append_pr w.heap.size Try.underlying27 infoPiece20 (wr.drew.alloc (.cells #[.string ⟨#[]⟩, .int .i64 8] 39)) rfl _ _ rfl u4 l [bigP] (some ⟨wr.heap.size, 0, none⟩) 1 1 (q + 1) HK.out rfl rfl rfl HO.out HL.out HB.out (by omega) ?_)
          intro A' cap w5 ho hk hfr
          have HB5 := Lib.hid (HBB.out.trans (hk.below (B := w.heap.size) HB.out (fun b hb e => absurd (HF.out b e) (by omega))))
          have HZ := Lib.hid (show ParI w c (j + 2 + n) (l ++ [bigP]) (.slice A' (q + 1) cap) w5 by
            have := HIr.out.bad (pv' := .slice A' (q + 1) cap) (w' := w5) h2 (by rw [EN.out]; exact HG.out) ho HB5.out
            rw [EN.out] at this
            exact this)
          clear ho hk hfr HK HO HL HB HBB HF HB5 HG
          by_cases hp : c.size < j + 2 + n
          · have r1 : decide ((c.size : Int) < (j : Int) + 2 + (n : Int)) = true := decide_eq_true (by omega)
            have r2 : (c.size : Int) < (j : Int) + 2 + (n : Int) := by omega
            have HY := Lib.hid (HZ.out.past hp)
            clear HIr EN
            go_wp2
            go_ret2
            exact ⟨.slice A' (q + 1) cap, by rw [HY.out.2]; rfl, by rw [HY.out.1]; exact HZ.out.p, HZ.out.b⟩
          · have r1 : decide ((c.size : Int) < (j : Int) + 2 + (n : Int)) = false := decide_eq_false (by omega)
            have r2 : ¬ (c.size : Int) < (j : Int) + 2 + (n : Int) := by omega
            clear HIr EN
            go_wp2
            go_roundw
            case rel => exact ⟨j + 2 + n, _, by omega, by go_num, HZ⟩
            case measure => simp [intOf]; omega
    · have q1 : ¬ (2 : Int) ≤ (c.size : Int) - (j : Int) := by omega
      have q2 : decide ((2 : Int) ≤ (c.size : Int) - (j : Int)) = false := decide_eq_false q1
      have HY := Lib.hid (HIr.out.short (by omega))
      go_wp2
      go_ret2
      exact ⟨_, by rw [HY.out.2]; exact congrArg (fun z => Ending.returned (.tuple #[u4, .int .i64 z])) (by omega), by rw [HY.out.1]; exact HIr.out.p, HIr.out.b⟩
end Go.Proofs.Ytgcdminjpdbchab
