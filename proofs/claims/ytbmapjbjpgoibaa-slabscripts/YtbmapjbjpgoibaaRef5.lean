/- The document's own Write. -/
import Derived.Test.YtbmapjbjpgoibaaRef4
namespace Go.Proofs.Ytbmapjbjpgoibaa
open Go.ChangeShapes Go.WideShapes Go.ChangeAt Go.RowKit
set_option linter.unusedVariables false
theorem Words.drew {w : World} {A : Option Addr} {k : Nat} {ns : List Nat} (h : Words w A k ns) : Words w.drew A k ns := h
theorem below_drew' {w w' : World} (h : Below w.drew.heap.size w.drew w') : Below w.heap.size w w' := ⟨h.os, h.tape, h.output, h.size, h.block⟩
theorem ref_wrote {r : RB} {k i : Nat} {s : Sl} {c : SC} {w w1 : World} {g cap' : Nat} {ns : List Nat} (hs : IsRef w r k s) (hc : s.cells[i]? = some c) (hb : Below w.heap.size w w1) (hg : w.heap.size ≤ g) (hown : OwnW w1 g k ns) (hcap : k ≤ cap') :
    RefTells r k (s.put i { c with ws := ns } s.free) (.int .i64 0) w (.returned (.int .i64 0)) (w1.setCell ⟨r.bW, i, none⟩ (.slice (some ⟨g, 0, none⟩) k cap')) :=
    ⟨{ r with vs := r.vs.set i (g, cap') }, rfl, rfl, (hs.below hb).setW hc ns g cap' (fun hm => by have := hs.lt g hm; omega) hown hcap, (Kept.of_below hb).setCell (.inl (by simp [RB.all])) _, fun b hbm => by
      unfold RB.all at *
      simp only [List.mem_cons] at hbm ⊢
      rcases hbm with x | x | x | x | x | x
      · exact .inl (.inl x)
      · exact .inl (.inr (.inl x))
      · exact .inl (.inr (.inr (.inl x)))
      · exact .inl (.inr (.inr (.inr (.inl x))))
      · exact .inl (.inr (.inr (.inr (.inr (.inl x)))))
      · rw [List.map_set] at x
        rcases List.mem_or_eq_of_mem_set x with x | x
        · exact .inl (.inr (.inr (.inr (.inr (.inr x)))))
        · exact .inr (by rw [x]; exact hg)⟩
set_option maxRecDepth 100000 in
theorem ref_Write (r : RB) (k i : Nat) (h : Int) (A : Option Addr) (cap : Nat) (ns : List Nat) (s : Sl) (c : SC) (w : World) (hs : IsRef w r k s) (e : s.find h = some i) (hc : s.cells[i]? = some c) (hw : Words w A k ns) :
    Calls Try.prog 22 #[.pointer (some ⟨r.bR, 0, none⟩), .int .i64 h, .slice A k cap] w (RefTells r k (s.put i { c with ws := ns } s.free) (.int .i64 0) w) := by
  have HG := Lib.hid (ref_good r k i h s w hs e)
  have p2 := hs.p2
  have hi : i < s.cells.length := (List.getElem?_eq_some_iff.1 hc).1
  have n64 := hs.n64
  have k32 := hs.k32
  obtain ⟨rv, hv1, hv2⟩ := hs.v
  have cW : s.cells.length ≤ r.cW := by omega
  obtain ⟨p, hp⟩ : ∃ p, r.vs[i]? = some p := ⟨_, List.getElem?_eq_getElem (by rw [hs.vl]; exact hi)⟩
  have c2 := hs.cv hp
  obtain ⟨hpk, hown⟩ := hs.ws i p c hp hc
  have HW := Lib.hid hw
  have hbR := hs.hd.lt
  have hbW : r.bW < w.heap.size := hv1.lt
  have HV := Lib.hid hv1
  have HP2 := Lib.hid p2
  have HC2 := Lib.hid c2
  have R := Lib.hid (fun (w1 : World) (g cap' : Nat) (hb : Below w.heap.size w w1) (hg : w.heap.size ≤ g) (ho : OwnW w1 g k ns) (hk : k ≤ cap') => ref_wrote (r := r) (i := i) (s := s) (c := c) (cap' := cap') hs hc hb hg ho hk)
  clear hs e hc hv1 hv2 hp hown hw
  obtain ⟨n, hn⟩ : ∃ n, n = s.cells.length := ⟨_, rfl⟩
  rw [← hn] at p2 hi n64 cW HP2
  clear hn
  generalize s.put i { c with ws := ns } s.free = st at *
  go_enter Try.func22, Try.ntmps22
  go_wp2_with fail
  refine HG.out.mono ?_
  rintro e w' ⟨rfl, rfl⟩
  go_wp2_with fail
  go_region_law (refine step_append_words w.drew rfl (.tmp 29) (.tmp 30) rfl A k cap ns (by simp [Act.eval]) (by simp [Act.eval]) HW.out.drew (by omega) ?_; intro g cap' w1 hg hcap hown hb; have hb := below_drew' hb; have q2 := (hb.cell (p := ⟨r.bR, 2, none⟩) hbR).trans HP2.out; have q3 := (HV.out.below hb hbW).loose i; have q4 := (hb.cell (p := ⟨r.bW, i, none⟩) hbW).trans HC2.out; have q5 : r.bW < w1.heap.size := Nat.lt_of_lt_of_le hbW hb.size; have RR := Lib.hid (R.out w1 g cap' hb hg hown hcap); clear hb hown hg)
  all_goals (go_wp2; go_ret; exact RR.out)
end Go.Proofs.Ytbmapjbjpgoibaa
