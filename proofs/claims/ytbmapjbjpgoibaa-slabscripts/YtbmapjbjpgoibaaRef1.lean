/- The document's own Live. -/
import Derived.Test.YtbmapjbjpgoibaaRef0
namespace Go.Proofs.Ytbmapjbjpgoibaa
open Go.ChangeShapes Go.WideShapes Go.ChangeAt Go.RowKit
set_option linter.unusedVariables false

def liveTo (s : Sl) (j : Nat) : List Int := (takenTo s j).map fun p => hdl p.1
theorem liveTo_yes {s : Sl} {j : Nat} {c : SC} (h : s.cells[j]? = some c) (ht : c.taken = true) : liveTo s (j + 1) = liveTo s j ++ [(c.gen : Int) * 64 + j] := by
  unfold liveTo
  rw [takenTo_yes h ht]
  simp [hdl]
theorem liveTo_no {s : Sl} {j : Nat} {c : SC} (h : s.cells[j]? = some c) (ht : c.taken = false) : liveTo s (j + 1) = liveTo s j := by
  unfold liveTo
  rw [takenTo_no h ht]
theorem liveTo_len (s : Sl) (j : Nat) : (liveTo s j).length ≤ j := by
  unfold liveTo
  rw [List.length_map]
  exact takenTo_len s j
theorem told_of_giv {FT : Nat → Prop} {w w' : World} {v : Value} {l : List Int} (h : Giv FT w.heap.size w' v l) (hb : Below w.heap.size w w') : LiveTold l w (.returned v) w' := ⟨v, rfl, h.1, h.2.1, hb⟩
set_option maxRecDepth 100000 in
set_option maxHeartbeats 2000000 in
theorem ref_Live (r : RB) (k : Nat) (s : Sl) (w : World) (hs : IsRef w r k s) :
    Calls Try.prog 27 #[.pointer (some ⟨r.bR, 0, none⟩)] w (LiveTold s.live w) := by
  have n64 := hs.n64
  obtain ⟨rg, _, hg2⟩ := hs.g
  obtain ⟨rt, _, ht2⟩ := hs.t
  have cG : s.cells.length ≤ r.cG := by omega
  have cT : s.cells.length ≤ r.cT := by omega
  have HS := Lib.hid hs
  have HL := Lib.hid (show s.live = liveTo s s.cells.length from rfl)
  clear hs hg2 ht2
  obtain ⟨n, hn⟩ : ∃ n, n = s.cells.length := ⟨_, rfl⟩
  have HN := Lib.hid hn
  rw [← hn] at n64 cG cT
  clear hn
  go_enter Try.func27, Try.ntmps27
  go_wp2_with fail
  go_loopw [3, 4] (fun v i wr => ∃ j : Nat, j ≤ n ∧ i = .int .i64 (j : Int) ∧ Giv (fun _ => False) w.heap.size wr v (liveTo s j) ∧ Below w.heap.size w wr) (fun _ i _ => n - (intOf i).toNat)
  case atStart => exact ⟨0, Nat.zero_le _, rfl, Giv.nil _ _ _, Below.refl _ _⟩
  case round =>
    obtain ⟨j, hj, rfl, hG, hB⟩ := hrel
    have HS1 := Lib.hid (HS.out.below hB)
    have HG := Lib.hid hG
    have HB := Lib.hid hB
    have p0 := HS1.out.p0
    have p1 := HS1.out.p1
    rw [← HN.out] at p0 p1
    clear hG hB
    by_cases hlt : j < n
    · obtain ⟨c, hc⟩ : ∃ c, s.cells[j]? = some c := ⟨_, List.getElem?_eq_getElem (by rw [← HN.out]; exact hlt)⟩
      have c0 := HS1.out.ct hc
      have c1 := HS1.out.cg hc
      have hgn := HS1.out.gn c (List.mem_of_getElem? hc)
      obtain ⟨A, lcap, e1, hat⟩ := HG.out.at_
      have HLL := Lib.hid (liveTo_len s j)
      cases ht : c.taken with
      | false =>
        rw [ht] at c0
        have HG2 := Lib.hid (show Giv (fun _ => False) w.heap.size wr _ (liveTo s (j + 1)) by rw [liveTo_no hc ht]; exact HG.out)
        clear hc ht e1 hat
        go_wp2
        go_roundw
        case rel => exact ⟨j + 1, by omega, by go_num, HG2.out, HB.out⟩
        case measure => simp [intOf]; omega
      | true =>
        rw [ht] at c0
        have HY := Lib.hid (show liveTo s (j + 1) = liveTo s j ++ [64 * (c.gen : Int) + j] by rw [liveTo_yes hc ht, Int.mul_comm])
        clear hc ht e1 hat
        generalize c.gen = g0 at *
        go_wp2_with (at_builtin; refine wpList_append_giv wr rfl _ _ rfl _ (liveTo s j) (64 * (g0 : Int) + j) rfl rfl HG.out (fun b h => h.elim) HB.out.size ?c1 ?_)
        case c1 => have := HLL.out; omega
        intro g cap' w5 hG5 hK5
        have HG5 := Lib.hid (show Giv (fun _ => False) w.heap.size w5 _ (liveTo s (j + 1)) by rw [HY.out]; exact hG5)
        have HB5 := Lib.hid (HB.out.trans (hK5.below HB.out.size (fun b hb hf => absurd (show w.heap.size ≤ b by first | exact hf | exact hf.2) (by omega))))
        clear hG5 hK5
        go_wp2
        go_roundw
        case rel => exact ⟨j + 1, by omega, by go_num, HG5.out, HB5.out⟩
        case measure => simp [intOf]; omega
    · obtain rfl : j = n := by omega
      have R := Lib.hid (told_of_giv HG.out HB.out)
      have HL2 := Lib.hid (show s.live = liveTo s j by rw [HL.out, HN.out])
      go_wp2
      go_ret
      rw [HL2.out]
      exact R.out
end Go.Proofs.Ytbmapjbjpgoibaa
