/- The document's own Take. -/
import Derived.Test.YtbmapjbjpgoibaaRef8
namespace Go.Proofs.Ytbmapjbjpgoibaa
open Go.ChangeShapes Go.WideShapes Go.ChangeAt Go.RowKit
set_option linter.unusedVariables false

theorem size_set (w : World) (p : Addr) (u : Value) : (w.setCell p u).heap.size = w.heap.size := by simp [World.setCell]
theorem ref_took {r : RB} {k i : Nat} {s : Sl} {c : SC} {fs : List Nat} {w w1 : World} {g cap : Nat} {rest : List Value} (hs : IsRef w r k s) (hc : s.cells[i]? = some c) (hf : s.free = fs ++ [i])
    (hb : Below w.heap.size w w1) (hg : w.heap.size ≤ g) (hcm : cap ≤ maxLen) (hh : Has w1 g 3 (intsV fs.reverse ++ rest)) (hl : fs.length + rest.length = cap) :
    IsRef ((w1.setCell ⟨r.bR, 3, none⟩ (.slice (some ⟨g, 0, none⟩) fs.length cap)).setCell ⟨r.bT, i, none⟩ (.bool true)) { r with bQ := g, cQ := cap } k (s.put i { c with taken := true } fs) ∧
    Kept (fun b => b ∈ r.all) w ((w1.setCell ⟨r.bR, 3, none⟩ (.slice (some ⟨g, 0, none⟩) fs.length cap)).setCell ⟨r.bT, i, none⟩ (.bool true)) := by
  have hfl : fs.length ≤ 64 := by have := hs.f64; rw [hf] at this; simp at this; omega
  have h1 := (hs.below hb).setQ fs g cap (rest := rest) (fun hm => by have := hs.lt g hm; omega) hh hl hcm hfl (fun j hj => hs.fi j (by rw [hf]; exact List.mem_append_left _ hj))
  have h2 := h1.setT (i := i) (c := c) hc true
  exact ⟨h2, ((Kept.of_below hb).setCell (p := ⟨r.bR, 3, none⟩) (.inl (by simp [RB.all])) _).setCell (p := ⟨r.bT, i, none⟩) (.inl (by simp [RB.all])) _⟩
theorem ref_took2 {r r1 : RB} {k i : Nat} {s s1 : Sl} {c1 : SC} {w w2 : World} {v : Value} (hs : IsRef w r k s) (h2 : IsRef w2 r1 k s1) (hc : s1.cells[i]? = some c1) (hR : r1.bR = r.bR) (hW : r1.bW = r.bW) (hr1 : ∀ b ∈ r1.all, b ∈ r.all ∨ w.heap.size ≤ b) (hK : Kept (fun b => b ∈ r.all) w w2) :
    RefTells r k (s1.put i { c1 with ws := List.replicate k 0 } s1.free) v w (.returned v) ((w2.setCell ⟨r.bW, i, none⟩ (.slice (some ⟨w2.heap.size, 0, none⟩) k k)).alloc (.cells (wordsV (List.replicate k 0)).toArray 49)).drew := by
  have hlt := h2.lt
  have ha : IsRef (w2.alloc (.cells (wordsV (List.replicate k 0)).toArray 49)) r1 k s1 := h2.below ((Below.refl _ _).alloc (Nat.le_refl _) _)
  have hz : AllW (List.replicate k 0) := fun n hn => by rw [List.eq_of_mem_replicate hn]; decide
  have ho : OwnW (w2.alloc (.cells (wordsV (List.replicate k 0)).toArray 49)) w2.heap.size k (List.replicate k 0) := by
    have := (Has.made w2 49 (wordsV (List.replicate k 0))).words hz
    rwa [List.length_replicate] at this
  have h3 := ha.setW hc (List.replicate k 0) w2.heap.size k (fun hm => by have := hlt _ hm; omega) ho (Nat.le_refl _)
  have hbW : r.bW < w2.heap.size := by rw [← hW]; exact hlt _ (by simp [RB.all])
  have e : (w2.setCell ⟨r.bW, i, none⟩ (.slice (some ⟨w2.heap.size, 0, none⟩) k k)).alloc (.cells (wordsV (List.replicate k 0)).toArray 49) = (w2.alloc (.cells (wordsV (List.replicate k 0)).toArray 49)).setCell ⟨r.bW, i, none⟩ (.slice (some ⟨w2.heap.size, 0, none⟩) k k) :=
    (World.setCell_alloc_past _ _ _ _ hbW).symm
  rw [show r1.bW = r.bW from hW] at h3
  refine ⟨{ r1 with vs := r1.vs.set i (w2.heap.size, k) }, hR, rfl, ?_, ?_, fun b hbm => ?_⟩
  · rw [e]
    rw [← hW] at h3 ⊢
    exact h3.below (Below.refl _ _).drew
  · rw [e]; exact ((hK.alloc _).setCell (p := ⟨r.bW, i, none⟩) (.inl (by simp [RB.all])) _).drew
  · have hsz := hK.size
    have : b ∈ r1.all ∨ b = w2.heap.size := by
      unfold RB.all at hbm ⊢
      simp only [List.mem_cons] at hbm ⊢
      rcases hbm with x | x | x | x | x | x
      · exact .inl (.inl x)
      · exact .inl (.inr (.inl x))
      · exact .inl (.inr (.inr (.inl x)))
      · exact .inl (.inr (.inr (.inr (.inl x))))
      · exact .inl (.inr (.inr (.inr (.inr (.inl x)))))
      · rw [List.map_set] at x
        rcases List.mem_or_eq_of_mem_set x with x | x
        · exact .inl (.inr (.inr (.inr (.inr (.inr x)))))
        · exact .inr x
    rcases this with x | x
    · exact hr1 b x
    · exact .inr (by omega)
theorem mem_bQ {r : RB} {g cap b : Nat} {B : Nat} (hg : B ≤ g) (h : b ∈ ({ r with bQ := g, cQ := cap } : RB).all) : b ∈ r.all ∨ B ≤ b := by
  unfold RB.all at *
  simp only [List.mem_cons] at h ⊢
  rcases h with x | x | x | x | x | x
  · exact .inl (.inl x)
  · exact .inl (.inr (.inl x))
  · exact .inl (.inr (.inr (.inl x)))
  · exact .inl (.inr (.inr (.inr (.inl x))))
  · exact .inr (by omega)
  · exact .inl (.inr (.inr (.inr (.inr (.inr x)))))
set_option maxRecDepth 100000 in
set_option maxHeartbeats 2000000 in
theorem ref_Take (r : RB) (k i : Nat) (s : Sl) (c : SC) (fs : List Nat) (w : World) (hs : IsRef w r k s) (hc : s.cells[i]? = some c) (hf : s.free = fs ++ [i]) :
    Calls Try.prog 15 #[.pointer (some ⟨r.bR, 0, none⟩)] w (RefTells r k (s.put i { c with taken := true, ws := List.replicate k 0 } fs) (.tuple #[.int .i64 (64 * (c.gen : Int) + i), .int .i64 0]) w) := by
  have p0 := hs.p0
  have p1 := hs.p1
  have p2 := hs.p2
  have p3 := hs.p3
  have hi : i < s.cells.length := (List.getElem?_eq_some_iff.1 hc).1
  have n64 := hs.n64
  have k32 := hs.k32
  obtain ⟨rg, hG1, hG2⟩ := hs.g
  obtain ⟨rt, hT1, hT2⟩ := hs.t
  obtain ⟨rv, hV1, hV2⟩ := hs.v
  obtain ⟨rq, hQ1, hQ2⟩ := hs.q
  have cG : s.cells.length ≤ r.cG := by omega
  have cT : s.cells.length ≤ r.cT := by omega
  have cW : s.cells.length ≤ r.cW := by omega
  have cQ : s.free.length ≤ r.cQ := by omega
  have hgn := hs.gn c (List.mem_of_getElem? hc)
  have hfr : s.free.reverse = i :: fs.reverse := by rw [hf]; simp
  have hfl : s.free.length = fs.length + 1 := by rw [hf]; simp
  have c0 := hs.cq (i := 0) (x := i) (by rw [hfr]; rfl)
  have NA : Hid (NatsAt w (some ⟨r.bQ, 1, none⟩) fs.reverse) := Lib.hid fun _ => ⟨r.bQ, 1, rfl, hQ1.lt, fun j x hx => by rw [Nat.add_comm]; exact hs.cq (by rw [hfr]; exact hx)⟩
  have NB : Hid (fs.length = 0 → NatsAt w (some ⟨r.bQ, 0, none⟩) fs.reverse) := Lib.hid fun h0 hp => absurd hp (by rw [List.length_reverse]; omega)
  have HFL := Lib.hid (show fs.reverse.length = fs.length by simp)
  obtain ⟨p, hp⟩ : ∃ p, r.vs[i]? = some p := ⟨_, List.getElem?_eq_getElem (by rw [hs.vl]; exact hi)⟩
  have P0 := Lib.hid p0
  have P1 := Lib.hid p1
  have P2 := Lib.hid p2
  have CV := Lib.hid (hs.cv hp)
  have CT := Lib.hid (hs.ct hc)
  have CG := Lib.hid (hs.cg hc)
  have HV := Lib.hid hV1
  have HT := Lib.hid hT1
  have HH := Lib.hid hs.hd
  have hbR := hs.hd.lt
  have hbG := hG1.lt
  have hbT := hT1.lt
  have hbW := hV1.lt
  obtain ⟨n1, n2, n3, n4, n5, n6, n7, n8, n9, n10, nv⟩ := RB.apart hs.nd
  have mW := run_makeW k k32
  have hfl2 : fs.length ≤ 64 := by have := hs.f64; omega
  have R := Lib.hid (fun (w1 : World) (g cap : Nat) (rest : List Value) hb hg hcm hh hl => ref_took (r := r) (k := k) (i := i) (s := s) (c := c) (fs := fs) (w := w) (w1 := w1) (g := g) (cap := cap) (rest := rest) hs hc hf hb hg hcm hh hl)
  have R2 := Lib.hid (fun (w2 : World) (g cap : Nat) (hg : w.heap.size ≤ g) (h2 : IsRef w2 { r with bQ := g, cQ := cap } k (s.put i { c with taken := true } fs)) (hK : Kept (fun b => b ∈ r.all) w w2) => ref_took2 (v := .tuple #[.int .i64 (64 * (c.gen : Int) + i), .int .i64 0]) hs h2 (show (s.put i { c with taken := true } fs).cells[i]? = some { c with taken := true } by rw [getElem?_put hi, if_pos rfl]) rfl rfl (fun b hb => mem_bQ hg hb) hK)
  have E2 := Lib.hid (show (s.put i { c with taken := true } fs).put i { c with taken := true, ws := List.replicate k 0 } fs = s.put i { c with taken := true, ws := List.replicate k 0 } fs by simp [Sl.put])
  have hq1 := hQ1.lt
  rw [hfl] at p3 cQ
  clear nv hG1 hG2 hT1 hT2 hV1 hV2 hQ1 hQ2 hs hc hf hfr hfl hp n4 n7 n9 n10
  generalize s.cells.length = n at *
  generalize hst : s.put i { c with taken := true, ws := List.replicate k 0 } fs = st at *
  clear hst
  obtain ⟨m, hm⟩ : ∃ m, m = fs.length := ⟨_, rfl⟩
  rw [← hm] at p3 cQ HFL NB hfl2 R
  have HM := Lib.hid hm
  clear hm
  by_cases hq : r.cQ = 1
  · have hm0 : m = 0 := by omega
    subst hm0
    rw [hq] at p3
    go_enter Try.func15, Try.ntmps15
    go_wp2_with (at_builtin; refine wpList_append_ints w w.heap.size rfl [] rfl _ _ rfl _ 0 _ fs.reverse 0 rfl rfl rfl HFL.out (NB.out rfl) (by omega) ?_)
    intro g cap w1 rest hg hcm hh hl hb
    have q0 := (hb.cell (p := ⟨r.bR, 0, none⟩) hbR).trans P0.out
    have q1 := (hb.cell (p := ⟨r.bR, 1, none⟩) hbR).trans P1.out
    have q2 := (hb.cell (p := ⟨r.bR, 2, none⟩) hbR).trans P2.out
    have q3 := (hb.cell (p := ⟨r.bR, 3, none⟩) hbR).trans p3
    have q4 := (HH.out.below hb hbR).loose 3
    have q5 := (hb.cell (p := ⟨r.bT, i, none⟩) hbT).trans CT.out
    have q6 := (HT.out.below hb hbT).loose i
    have q7 := (hb.cell (p := ⟨r.bG, i, none⟩) hbG).trans CG.out
    have q8 := (hb.cell (p := ⟨r.bW, i, none⟩) hbW).trans CV.out
    have q9 := (HV.out.below hb hbW).loose i
    have z1 : r.bR < w1.heap.size := Nat.lt_of_lt_of_le hbR hb.size
    have z2 : r.bT < w1.heap.size := Nat.lt_of_lt_of_le hbT hb.size
    have z3 : r.bG < w1.heap.size := Nat.lt_of_lt_of_le hbG hb.size
    have z4 : r.bW < w1.heap.size := Nat.lt_of_lt_of_le hbW hb.size
    have RR := R.out w1 g cap rest hb hg hcm hh (by omega)
    have RQ := Lib.hid (R2.out _ g cap hg RR.1 RR.2)
    rw [show (s.put i { c with taken := true } fs).free = fs from rfl, E2.out] at RQ
    simp only [size_set] at RQ
    clear RR hb hh hl hg hcm R R2 E2 P0 P1 P2 CV CT CG HV HT HH p0 p1 p2 p3 c0 NA NB HFL
    generalize c.gen = gn at *
    go_wp2
    go_region
    all_goals (go_wp2; go_ret2; exact RQ.out)
  · have hq2 : 1 < r.cQ := by omega
    go_enter Try.func15, Try.ntmps15
    go_wp2_with (at_builtin; refine wpList_append_ints w w.heap.size rfl [] rfl _ _ rfl _ m _ fs.reverse 0 rfl rfl rfl HFL.out NA.out (by omega) ?_)
    intro g cap w1 rest hg hcm hh hl hb
    have q0 := (hb.cell (p := ⟨r.bR, 0, none⟩) hbR).trans P0.out
    have q1 := (hb.cell (p := ⟨r.bR, 1, none⟩) hbR).trans P1.out
    have q2 := (hb.cell (p := ⟨r.bR, 2, none⟩) hbR).trans P2.out
    have q3 := (hb.cell (p := ⟨r.bR, 3, none⟩) hbR).trans p3
    have q4 := (HH.out.below hb hbR).loose 3
    have q5 := (hb.cell (p := ⟨r.bT, i, none⟩) hbT).trans CT.out
    have q6 := (HT.out.below hb hbT).loose i
    have q7 := (hb.cell (p := ⟨r.bG, i, none⟩) hbG).trans CG.out
    have q8 := (hb.cell (p := ⟨r.bW, i, none⟩) hbW).trans CV.out
    have q9 := (HV.out.below hb hbW).loose i
    have z1 : r.bR < w1.heap.size := Nat.lt_of_lt_of_le hbR hb.size
    have z2 : r.bT < w1.heap.size := Nat.lt_of_lt_of_le hbT hb.size
    have z3 : r.bG < w1.heap.size := Nat.lt_of_lt_of_le hbG hb.size
    have z4 : r.bW < w1.heap.size := Nat.lt_of_lt_of_le hbW hb.size
    have RR := R.out w1 g cap rest hb hg hcm hh (by omega)
    have RQ := Lib.hid (R2.out _ g cap hg RR.1 RR.2)
    rw [show (s.put i { c with taken := true } fs).free = fs from rfl, E2.out] at RQ
    simp only [size_set] at RQ
    clear RR hb hh hl hg hcm R R2 E2 P0 P1 P2 CV CT CG HV HT HH p0 p1 p2 p3 c0 NA NB HFL
    generalize c.gen = gn at *
    go_wp2
    go_region
    all_goals (go_wp2; go_ret2; exact RQ.out)
end Go.Proofs.Ytbmapjbjpgoibaa
