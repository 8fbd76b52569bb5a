/- The document's own New: what it tells. -/
import Derived.Test.YtbmapjbjpgoibaaRef10
namespace Go.Proofs.Ytbmapjbjpgoibaa
open Go.ChangeShapes Go.WideShapes Go.ChangeAt Go.RowKit
set_option linter.unusedVariables false

theorem replicate_map {α β : Type} (l : List α) (b : β) (f : α → β) (h : ∀ a ∈ l, f a = b) : l.map f = List.replicate l.length b := by
  induction l with
  | nil => rfl
  | cons a l ih => rw [List.map_cons, h a (by simp), ih (fun x hx => h x (by simp [hx]))]; rfl
theorem newS_rev (n k : Nat) (bs : List Nat) : (newS n k bs).free.reverse = List.range n := by
  apply List.ext_getElem?
  intro i
  show (((List.range n).map fun i => n - 1 - i).reverse)[i]? = _
  by_cases hi : i < n
  · rw [List.getElem?_reverse (by simpa using hi), List.getElem?_map, List.getElem?_range (by simp; omega), List.getElem?_range hi]
    simp
    omega
  · rw [List.getElem?_eq_none (by simp; omega), List.getElem?_eq_none (by simp; omega)]
/-- What the document's New tells. -/
def RefNewed (n k : Nat) (w : World) (e : Ending) (w' : World) : Prop :=
  ∃ r : RB, e = .returned (.tuple #[.pointer (some ⟨r.bR, 0, none⟩), .int .i64 0]) ∧ (∀ bs : List Nat, bs.length = n → IsRef w' r k (newS n k bs)) ∧ Below w.heap.size w w' ∧ ∀ b ∈ r.all, w.heap.size ≤ b
theorem inj_nodup {f : Nat → Option Nat} (h : Inj f) (l : List Nat) (off : Nat) (hl : ∀ i x, l[i]? = some x → f (i + off) = some x) : l.Nodup := by
  rw [List.nodup_iff_pairwise_ne, List.pairwise_iff_getElem]
  intro i j hi hj hij e
  have := h (i + off) (j + off) l[i] (hl i _ (List.getElem?_eq_getElem hi)) (by rw [e]; exact hl j _ (List.getElem?_eq_getElem hj))
  omega
theorem RN.end_ {W w : World} {n k bR : Nat} {vG vT vW vQ : Value} {vs : List Nat} (h : RN W w k bR vG vT vW vQ n n n vs) (hv : vs.length = n) (h1 : 1 ≤ n) (h2 : n ≤ 64) (h3 : k ≤ 32) :
    RefNewed n k W (.returned (.tuple #[.pointer (some ⟨bR, 0, none⟩), .int .i64 0])) w := by
  have ne : ∀ {α : Type} (x : α), List.replicate n x ≠ [] := fun x e => by have := congrArg List.length e; simp at this; omega
  obtain ⟨gG, cG, rG, rfl, bG, mG, hG, eG⟩ := h.g.has (ne _)
  obtain ⟨gT, cT, rT, rfl, bT, mT, hT, eT⟩ := h.t.has (ne _)
  have lW : (slV k vs).length = n := by simp [slV, hv]
  have lQ : (intsV (List.range n)).length = n := by simp [intsV]
  obtain ⟨gW, cW, rW, rfl, bW, mW, hW, eW⟩ := h.v.has (fun e => by rw [e] at lW; simp at lW; omega)
  obtain ⟨gQ, cQ, rQ, rfl, bQ, mQ, hQ, eQ⟩ := h.q.has (fun e => by rw [e] at lQ; simp at lQ; omega)
  rw [List.length_replicate] at eG eT
  rw [lW] at eW
  rw [lQ] at eQ
  have hd := h.hd
  rw [List.length_replicate, List.length_replicate, lW, lQ] at hd
  have ap := h.ap
  refine ⟨⟨bR, gG, gT, gW, gQ, cG, cT, cW, cQ, vs.map fun b => (b, k)⟩, rfl, fun bs hb => ?_, h.lo, fun b hbm => ?_⟩
  · have lC : (newS n k bs).cells.length = n := by simp [newS, hb]
    have lF : (newS n k bs).free.length = n := by simp [newS]
    refine ⟨by rw [lC, lF]; exact hd, ⟨rG, ?_, by rw [lC]; exact eG⟩, ⟨rT, ?_, by rw [lC]; exact eT⟩, ⟨rW, ?_, by rw [lC]; exact eW⟩, ⟨rQ, ?_, by rw [lF]; exact eQ⟩, by rw [lC]; simp [hv], fun i p c hp hc => ?_, ?_, mQ, by rw [lC]; exact h1, by rw [lC]; exact h2, by rw [lF]; exact h2, h3, fun i hi => ?_, fun c hc => ?_⟩
    · have : gensV (newS n k bs).cells = List.replicate n (.int .i64 0) := by
        have := replicate_map (newS n k bs).cells (Value.int .i64 0) (fun c => .int .i64 (c.gen : Int)) (fun c hc => by
          simp only [newS, List.mem_map] at hc
          obtain ⟨b, _, rfl⟩ := hc
          rfl)
        rw [lC] at this
        exact this
      rw [this]; exact hG
    · have : takV (newS n k bs).cells = List.replicate n (.bool false) := by
        have := replicate_map (newS n k bs).cells (Value.bool false) (fun c => .bool c.taken) (fun c hc => by
          simp only [newS, List.mem_map] at hc
          obtain ⟨b, _, rfl⟩ := hc
          rfl)
        rw [lC] at this
        exact this
      rw [this]; exact hT
    · have : wsV k (vs.map fun b => (b, k)) = slV k vs := by simp [wsV, slV]
      rw [this]; exact hW
    · rw [newS_rev]; exact hQ
    · simp only [List.getElem?_map, Option.map_eq_some_iff] at hp
      obtain ⟨b, hb1, rfl⟩ := hp
      simp only [newS, List.getElem?_map, Option.map_eq_some_iff] at hc
      obtain ⟨b2, hb2, rfl⟩ := hc
      have := (h.ws b (List.mem_of_getElem? hb1)).2.words (fun x hx => by rw [List.eq_of_mem_replicate hx]; decide)
      rw [List.length_replicate] at this
      exact ⟨Nat.le_refl _, this⟩
    · unfold RB.all
      refine inj_nodup ap _ 0 (fun i x hx => ?_)
      match i, hx with
      | 0, hx => exact hx
      | 1, hx => exact hx
      | 2, hx => exact hx
      | 3, hx => exact hx
      | 4, hx => exact hx
      | i + 5, hx =>
        have hx2 : ((vs.map fun b => (b, k)).map Prod.fst)[i]? = some x := hx
        rw [List.map_map] at hx2
        show vs[i]? = some x
        simpa using hx2
    · rw [lC]
      simp [newS] at hi
      omega
    · simp only [newS, List.mem_map] at hc
      obtain ⟨b, _, rfl⟩ := hc
      exact Nat.zero_le _
  · unfold RB.all at hbm
    simp only [List.mem_cons, List.map_map] at hbm
    rcases hbm with x | x | x | x | x | x
    · rw [x]; exact h.bR
    · rw [x]; exact bG
    · rw [x]; exact bT
    · rw [x]; exact bW
    · rw [x]; exact bQ
    · have : b ∈ vs := by simpa using x
      exact (h.ws b this).1
theorem RN.start (W : World) (k : Nat) : RN W (W.alloc (.cells #[.slice none 0 0, .slice none 0 0, .slice none 0 0, .slice none 0 0] 61)) k W.heap.size (.slice none 0 0) (.slice none 0 0) (.slice none 0 0) (.slice none 0 0) 0 0 0 [] :=
  ⟨Has.made W _ [_, _, _, _], Own1.nil _ _ _, Own1.nil _ _ _, Own1.nil _ _ _, Own1.nil _ _ _, (fun b hb => by cases hb), (fun a b x ha hb => by
    match a, b, ha, hb with
    | 0, 0, _, _ => rfl
    | 0, n + 1, _, hb => match n, hb with
      | 0, hb => cases hb
      | 1, hb => cases hb
      | 2, hb => cases hb
      | 3, hb => cases hb
      | n + 4, hb => simp [labN] at hb
    | n + 1, _, ha, _ => match n, ha with
      | 0, hb => cases hb
      | 1, hb => cases hb
      | 2, hb => cases hb
      | 3, hb => cases hb
      | n + 4, hb => simp [labN] at hb), Nat.le_refl _, (Below.refl _ _).alloc (Nat.le_refl _) _⟩
theorem RN.hdK {W w w1 : World} {k bR : Nat} {vG vT vW vQ : Value} {jG jT jQ : Nat} {vs : List Nat} (h : RN W w k bR vG vT vW vQ jG jT jQ vs) (a : Nat) (old : Value) (ha : labN bR vG vT vW vQ vs a = old.ownBlock) (ha0 : a ≠ 0) (hk : Kept (fun b => old.ownBlock = some b) w w1) : Has w1 bR 61 [vG, vT, vW, vQ] :=
  h.hd.kept hk (fun he => ha0 (h.ap a 0 bR (ha.trans he) rfl))
theorem Try.infoB : (Try.prog.info? 4).map (fun i => (i.zero, i.size, i.bytes)) = some (some (.bool false), 1, 1) := by kernel_rfl
theorem ref_New_bad (n k : Int) (w : World) (h : ¬ (1 ≤ n ∧ n ≤ 64 ∧ 0 ≤ k ∧ k ≤ 32)) :
    Calls Try.prog 12 #[.int .i64 n, .int .i64 k] w fun e w' => e = .returned (.tuple #[.pointer none, .int .i64 1]) ∧ w = w' := by
  by_cases a1 : n < 1
  · clear h
    go_enter Try.func12, Try.ntmps12
    go_wp2
    go_ret2
    exact ⟨rfl, rfl⟩
  by_cases a2 : 64 < n
  · clear h
    go_enter Try.func12, Try.ntmps12
    go_wp2
    go_ret2
    exact ⟨rfl, rfl⟩
  by_cases a3 : k < 0
  · clear h
    go_enter Try.func12, Try.ntmps12
    go_wp2
    go_ret2
    exact ⟨rfl, rfl⟩
  have a4 : 32 < k := by omega
  clear h
  go_enter Try.func12, Try.ntmps12
  go_wp2
  go_ret2
  exact ⟨rfl, rfl⟩
set_option maxRecDepth 100000 in
set_option maxHeartbeats 2000000 in
theorem ref_New (n k : Nat) (w : World) (h1 : 1 ≤ n) (h2 : n ≤ 64) (h3 : k ≤ 32) : Calls Try.prog 12 #[.int .i64 n, .int .i64 k] w (RefNewed n k w) := by
  have m3 := run_makeW k h3
  have A1 := Lib.hid (RN.start w k)
  go_enter Try.func12, Try.ntmps12
  go_wp2
  go_loopw [7] (fun i wr => ∃ (j : Nat) (vG vT vW vQ : Value) (vs : List Nat), j ≤ n ∧ i = .int .i64 (j : Int) ∧ vs.length = j ∧ RN w wr k w.heap.size vG vT vW vQ j j j vs) (fun i _ => n - (intOf i).toNat)
  case atStart => exact ⟨0, _, _, _, _, [], Nat.zero_le _, rfl, rfl, A1.out⟩
  case round =>
    obtain ⟨j, vG, vT, vW, vQ, vs, hj, rfl, hvs, hN⟩ := hrel
    have HN := Lib.hid hN
    have HVS := Lib.hid hvs
    clear A1
    by_cases hlt : j < n
    · have p0 := hN.hd.cell 0
      have q0 := hN.hd.lt
      simp at p0
      have HSZ := Lib.hid (show w.heap.size ≤ wr.heap.size from hN.lo.size)
      clear hN hvs
      go_wp2_with (at_builtin; refine wpList_append_own1 wr wr.heap.size rfl rfl _ _ 32 rfl 3 (.int .i64 0) 8 Try.underlying32 Try.infoInt rfl (by decide) vG (.int .i64 0) (List.replicate j (.int .i64 0)) j (by simp) rfl rfl rfl HN.out.g HSZ.out (by omega) ?_)
      intro g1 cap1 w1 ho hk hg hl
      have HN1 := Lib.hid (HN.out.stepG ho hk hg)
      have hd := HN.out.hdK 1 vG rfl (by decide) hk
      have c0 := hd.cell 0
      have c1 := hd.cell 1
      have l0 := hd.loose 0
      have b1 := hd.lt
      simp at c0 c1
      have HSZ1 := Lib.hid (show w.heap.size ≤ w1.heap.size by have := HN1.out.lo.size; rw [size_set] at this; exact this)
      clear ho hk hg hl hd p0 HN
      go_wp2_with (at_builtin; refine wpList_append_own1 (w1.setCell ⟨w.heap.size, 0, none⟩ (.slice (some ⟨g1, 0, none⟩) (j + 1) cap1)) w1.heap.size (size_set _ _ _) rfl _ _ 59 rfl 4 (.bool false) 1 Try.underlying59 Try.infoB rfl (by decide) vT (.bool false) (List.replicate j (.bool false)) j (by simp) rfl rfl rfl HN1.out.t HSZ1.out (by omega) ?_)
      intro g2 cap2 w2 ho hk hg hl
      have HN2 := Lib.hid (HN1.out.stepT ho hk (hg.imp id (fun h => by rw [size_set]; exact h)))
      have hd := HN1.out.hdK 2 vT rfl (by decide) hk
      have e0 := hd.cell 1
      have e1 := hd.cell 2
      have f0 := hd.loose 1
      have b2 := hd.lt
      simp at e0 e1
      have HSZ2 := Lib.hid (show w.heap.size ≤ w2.heap.size by have := HN2.out.lo.size; rw [size_set] at this; exact this)
      clear ho hk hg hl hd c0 c1 l0 HN1
      obtain ⟨u0, hu0⟩ : ∃ u0, u0 = ((w2.setCell ⟨w.heap.size, 1, none⟩ (.slice (some ⟨g2, 0, none⟩) (j + 1) cap2)).alloc (.cells (wordsV (List.replicate k 0)).toArray 49)).drew := ⟨_, rfl⟩
      have HB0 := Lib.hid (show Below (w2.setCell ⟨w.heap.size, 1, none⟩ (.slice (some ⟨g2, 0, none⟩) (j + 1) cap2)).heap.size (w2.setCell ⟨w.heap.size, 1, none⟩ (.slice (some ⟨g2, 0, none⟩) (j + 1) cap2)) u0 from by rw [hu0]; exact ((Below.refl _ _).alloc (Nat.le_refl _) _).drew)
      have HW0 := Lib.hid (show Has u0 w2.heap.size 49 (wordsV (List.replicate k 0)) from by rw [hu0]; have := Has.made (w2.setCell ⟨w.heap.size, 1, none⟩ (.slice (some ⟨g2, 0, none⟩) (j + 1) cap2)) 49 (wordsV (List.replicate k 0)); rw [size_set] at this; exact this)
      have HU0 := Lib.hid (show u0.heap.size = w2.heap.size + 1 from by rw [hu0]; show ((w2.setCell ⟨w.heap.size, 1, none⟩ (.slice (some ⟨g2, 0, none⟩) (j + 1) cap2)).alloc (.cells (wordsV (List.replicate k 0)).toArray 49)).heap.size = _; simp [World.setCell])
      have HV0 := Lib.hid (HN2.out.below HB0.out).v
      go_wp2_with fail
      go_region_law (refine step_append_own1 (((w2.setCell ⟨w.heap.size, 1, none⟩ (.slice (some ⟨g2, 0, none⟩) (j + 1) cap2)).alloc (.cells (wordsV (List.replicate k 0)).toArray 49)).drew) (w2.heap.size + 1) (by rw [← hu0]; exact HU0.out) rfl (.tmp 51) (.tmp 54) 48 rfl 33 (.slice none 0 0) 24 Try.underlying48 Try.infoS rfl (by decide) vW (.slice (some ⟨w2.heap.size, 0, none⟩) k k) (slV k vs) vs.length (by simp [slV]) rfl (by simp [Act.eval]) (by simp [Act.eval]) (by rw [← hu0]; exact HV0.out) (by have := HSZ2.out; omega) (by have := HVS.out; omega) ?_; intro g3 cap3 w3 ho hk hg hl; rw [← hu0] at hk; have HN3 := Lib.hid (HN2.out.stepW HB0.out (by rw [size_set]; exact Nat.le_refl _) HW0.out ho hk (hg.imp id (fun h => by rw [HU0.out]; exact h))); have hd := (HN2.out.below HB0.out).hdK 3 vW rfl (by decide) hk; have s0 := hd.cell 2; have s1 := hd.cell 3; have s2 := hd.loose 2; have b3 := hd.lt; simp at s0 s1; have HSZ3 := Lib.hid (show w.heap.size ≤ w3.heap.size by have := HN3.out.lo.size; rw [size_set] at this; exact this); clear ho hk hg hl hd)
      all_goals
        clear hu0 HB0 HW0 HU0 HV0 HN2 e0 e1 f0
        go_wp2_with (at_builtin; refine wpList_append_own1 (w3.setCell ⟨w.heap.size, 2, none⟩ (.slice (some ⟨g3, 0, none⟩) (vs.length + 1) cap3)) w3.heap.size (size_set _ _ _) rfl _ _ 32 rfl 3 (.int .i64 0) 8 Try.underlying32 Try.infoInt rfl (by decide) vQ (.int .i64 (j : Int)) (intsV (List.range j)) j (by simp [intsV]) rfl rfl rfl HN3.out.q HSZ3.out (by omega) ?_)
        intro g4 cap4 w4 ho hk hg hl
        have HN4 := Lib.hid (HN3.out.stepQ ho hk (hg.imp id (fun h => by rw [size_set]; exact h)))
        have hd := HN3.out.hdK 4 vQ rfl (by decide) hk
        have t0 := hd.cell 3
        have t2 := hd.loose 3
        have b4 := hd.lt
        simp at t0
        clear ho hk hg hl hd s0 s1 s2 HN3
        go_wp2
        go_roundw
        case rel => exact ⟨j + 1, _, _, _, _, vs ++ [w2.heap.size], by omega, by go_num, by have := HVS.out; simp; omega, HN4.out⟩
        case measure => simp [intOf]; omega
    · have HE := Lib.hid (show RefNewed n k w (.returned (.tuple #[.pointer (some ⟨w.heap.size, 0, none⟩), .int .i64 0])) wr by
        obtain rfl : j = n := by omega
        exact hN.end_ hvs h1 h2 h3)
      clear hN hvs
      go_wp2
      go_ret2
      exact HE.out
end Go.Proofs.Ytbmapjbjpgoibaa
