/- For all numbers the law SlabOwn returns true: what is read is new memory, and so is what is kept (of 1 to 32 words, else only the document's examples are asked). -/
import Derived.Test.YtdchoaihbjmpbabSlab8
import Derived.Test.YtdchoaihbjmpbabOpen
import Derived.Test.YtdchoaihbjmpbabRows
namespace Go.Proofs.Ytdchoaihbjmpbab.slabOwn
open Go.ChangeShapes Go.WideShapes Go.ChangeAt Go.RowKit
set_option linter.unusedVariables false

theorem wf_u {n : Int} (h : (Lit.int .u64 n).wf = true) : ∃ k : Nat, n = k ∧ k < 18446744073709551616 := by
  have hx : 0 ≤ n ∧ n ≤ 18446744073709551615 := by simpa [Lit.wf, IntKind.min, IntKind.max, IntKind.signed, IntKind.bits] using h
  exact ⟨n.toNat, by omega, by omega⟩
/-- The words that are written. -/
def lone (k a n : Nat) : List Nat := (List.replicate k 0).set a n
theorem lone_len (k a n : Nat) : (lone k a n).length = k := by simp [lone]
theorem lone_all {k a n : Nat} (hn : n < 18446744073709551616) : AllW (lone k a n) := by
  intro x hx
  rcases List.mem_or_eq_of_mem_set hx with hx | rfl
  · simp at hx; omega
  · exact hn
theorem lone_at {k a n : Nat} (h : a < k) : (lone k a n).getD a 0 = n := by rw [List.getD_eq_getElem?_getD]; simp [lone, h]
theorem lone_V (k a n : Nat) : (wordsV (List.replicate k 0)).set a (.int .u64 (n : Int)) = wordsV (lone k a n) := by
  simp [wordsV, lone, List.map_set]

set_option maxRecDepth 100000 in
set_option maxHeartbeats 2000000 in
theorem main (k n a : Nat) (W : World) (h1 : 1 ≤ k) (h2 : k ≤ 32) (ha : a < k) (hn : n < 18446744073709551616) :
    Calls Try.prog 5 #[.int .i64 k, .int .u64 n, .int .i64 a] W fun e w' => e = .returned (.bool true) ∧ Below W.heap.size W w' := by
  have HN := Lib.hid hn
  clear hn
  have mk := run_makeW k h2
  have HM := Lib.hid mk
  clear mk
  go_enter Try.func5, Try.ntmps5
  go_wp2_with fail
  refine (New_in 3 k W (by decide) (by decide) h2).mono ?_
  rintro e w1 ⟨FT, bP, bC, bF, bs, rfl, hl, hS, hB, hlo⟩
  obtain ⟨b, c, d, rfl⟩ : ∃ b c d, bs = [b, c, d] := by
    match bs, hl with
    | [b, c, d], _ => exact ⟨b, c, d, rfl⟩
  have HS := Lib.hid hS
  have HB := Lib.hid hB
  have HBK := Lib.hid (fun w' w'' (h : Below W.heap.size W w') (q : Kept FT w' w'') => h.trans (q.below (B := W.heap.size) h.size (fun i hi hf => by have := hlo i hf; omega)))
  clear hS hB hlo hl
  go_wp2_with fail
  refine (Take_in FT bP bC bF k 0 (newS 3 k [b, c, d]) ⟨false, 0, b, List.replicate k 0⟩ [2, 1] 0 _ HS.out rfl rfl rfl).mono ?_
  rintro e w2 ⟨rfl, hS, hK⟩
  have HS1 := Lib.hid hS
  have HB1 := Lib.hid (HBK.out _ _ HB.out hK)
  clear hS hK HS HB
  generalize hs1 : (newS 3 k [b, c, d]).put 0 _ [2, 1] = s1 at HS1
  obtain ⟨c1, hc1, hf1⟩ : ∃ c1, s1.cells[0]? = some c1 ∧ s1.find 0 = some 0 := by
    subst hs1
    exact ⟨_, rfl, rfl⟩
  have HC1 := Lib.hid hc1
  have HF1 := Lib.hid hf1
  clear hs1 hc1 hf1
  have mk := HM.out w2
  have hh : Has (w2.alloc (.cells (wordsV (List.replicate k 0)).toArray 49)) w2.heap.size 49 (wordsV (List.replicate k 0)) := Has.made _ _ _
  have c0 : (w2.alloc (.cells (wordsV (List.replicate k 0)).toArray 49)).cell? ⟨w2.heap.size, a, none⟩ = some (.int .u64 0) := by
    rw [hh.cell]; simp [wordsV, ha]
  have l0 := hh.loose a
  have HH := Lib.hid (Has.made w2 49 (wordsV (lone k a n)))
  have HG0 := Lib.hid (HS1.out.not_new (Nat.le_refl _))
  have HS2 := Lib.hid (HS1.out.alloc (.cells (wordsV (lone k a n)).toArray 49))
  have HB2 := Lib.hid (HB1.out.alloc HB1.out.size (.cells (wordsV (lone k a n)).toArray 49))
  have HW := Lib.hid (by have := (HH.out.words (lone_all HN.out)).words; rw [lone_len] at this; exact this)
  have HGB := Lib.hid HB1.out.size
  clear hh HS1 HB1
  go_wp2_with fail
  rw [lone_V]
  refine (Write_in FT bP bC bF k 0 0 _ k (lone k a n) s1 c1 _ HS2.out HF1.out HC1.out HW.out).mono ?_
  rintro e w3 ⟨rfl, hS, hK⟩
  have HS3 := Lib.hid hS
  have HB3 := Lib.hid (HBK.out _ _ HB2.out hK)
  have hh := HH.out.kept hK HG0.out
  generalize hs2 : s1.put 0 { c1 with ws := lone k a n } s1.free = s2 at HS3
  have HC2 := Lib.hid (show s2.cells[0]? = some { c1 with ws := lone k a n } by rw [← hs2, getElem?_put (List.getElem?_eq_some_iff.1 HC1.out).1, if_pos rfl])
  have HF2 := Lib.hid (show s2.find 0 = some 0 by
    obtain ⟨m, c', e1, e2, e3, e4, e5, e6⟩ := Sl.find_some HF1.out
    have e7 : c' = c1 := by rw [HC1.out] at e4; injection e4 with e4; exact e4.symm
    subst e7
    unfold Sl.find
    rw [if_neg (by decide)]
    show (match s2.cells[0]? with | none => none | some c => if c.taken = true ∧ (c.gen : Int) * 64 + 0 % 64 = 0 then some 0 else none) = some 0
    rw [HC2.out]
    exact if_pos ⟨e5, by show (c'.gen : Int) * 64 + 0 % 64 = 0; omega⟩)
  clear hS hK HS2 HB2 HH HW HC1 HF1 hs2 c0 l0 mk
  generalize w2.heap.size = g0 at *
  have c0 : w3.cell? ⟨g0, a, none⟩ = some (.int .u64 (n : Int)) := by
    rw [hh.cell, wordsV, List.getElem?_map]; simp [lone, ha]
  have l0 := hh.loose a
  have hg3 := hh.lt
  have HS4 := Lib.hid (fun v => HS3.out.store HG0.out a v)
  have HB4 := Lib.hid (fun v => HB3.out.setCell (p := ⟨g0, a, none⟩) HGB.out v)
  clear hh
  go_wp2_with fail
  refine (Read_yes bP bC bF k 0 0 s2 _ _ (HS4.out _).is HF2.out HC2.out).mono ?_
  rintro e w4 ⟨A, cap, rfl, hf, hb⟩
  obtain ⟨hcap, _, _, hor⟩ := hf
  simp only [lone_len] at hcap hor hb ⊢
  obtain ⟨g, rfl, hg, ho⟩ : ∃ g, A = some ⟨g, 0, none⟩ ∧ (w3.setCell ⟨g0, a, none⟩ (.int .u64 (IntKind.u64.wrap ((n : Int) + 1)))).heap.size ≤ g ∧ OwnW w4 g k (lone k a n) := by
    rcases hor with ⟨_, h0⟩ | h
    · omega
    · exact h
  have HG := Lib.hid ((HS4.out _).not_new hg)
  have HS5 := Lib.hid ((HS4.out _).below hb)
  have HB5 := Lib.hid ((HB4.out (.int .u64 (IntKind.u64.wrap ((n : Int) + 1)))).trans (hb.mono (HB4.out _).size))
  have HGB2 := Lib.hid (Nat.le_trans (HB4.out (.int .u64 (IntKind.u64.wrap ((n : Int) + 1)))).size hg)
  have c1' := ho.cell (i := a) ha
  rw [lone_at ha] at c1'
  have l1 := ho.loose a
  clear hor ho hb hg HS3 HS4 HB3 HB4 c0 l0
  have HS6 := Lib.hid (fun v => HS5.out.store HG.out a v)
  have HB6 := Lib.hid (fun v => HB5.out.setCell (p := ⟨g, a, none⟩) HGB2.out v)
  go_wp2_with fail
  refine (Read_yes bP bC bF k 0 0 s2 _ _ (HS6.out _).is HF2.out HC2.out).mono ?_
  rintro e w5 ⟨A2, cap2, rfl, hf, hb⟩
  obtain ⟨hcap2, _, _, hor⟩ := hf
  simp only [lone_len] at hcap2 hor hb ⊢
  obtain ⟨g2, rfl, hg, ho⟩ : ∃ g2, A2 = some ⟨g2, 0, none⟩ ∧ (w4.setCell ⟨g, a, none⟩ (.int .u64 (IntKind.u64.wrap ((n : Int) + 2)))).heap.size ≤ g2 ∧ OwnW w5 g2 k (lone k a n) := by
    rcases hor with ⟨_, h0⟩ | h
    · omega
    · exact h
  have HB7 := Lib.hid ((HB6.out (.int .u64 (IntKind.u64.wrap ((n : Int) + 2)))).trans (hb.mono (HB6.out _).size))
  have c2' := ho.cell (i := a) ha
  rw [lone_at ha] at c2'
  clear hor ho hb hg HS5 HS6 HB5 HB6 c1' l1
  go_wp2_with fail
  refine (live_any _).mono ?_
  rintro e w6 ⟨rfl, hb⟩
  have HB8 := Lib.hid (HB7.out.trans (hb.mono HB7.out.size))
  clear hb
  go_wp2
  go_ret
  exact ⟨rfl, HB8.out⟩

set_option maxRecDepth 100000 in
set_option maxHeartbeats 2000000 in
theorem walk (k n a : Int) (wk : (Lit.int .i64 k).wf = true) (wn : (Lit.int .u64 n).wf = true) (wa : (Lit.int .i64 a).wf = true) (W : World) :
    Calls Try.prog 5 #[.int .i64 k, .int .u64 n, .int .i64 a] W fun e w' => e = .returned (.bool true) ∧ Below W.heap.size W w' := by
  obtain ⟨n, rfl, hn⟩ := wf_u wn
  by_cases hk : 0 ≤ k ∧ k ≤ 32
  · obtain ⟨hk0, hk1⟩ := hk
    obtain ⟨k, rfl⟩ := Int.eq_ofNat_of_zero_le hk0
    by_cases h1 : 1 ≤ k
    · by_cases ha : 0 ≤ a ∧ a < k
      · obtain ⟨ha0, ha1⟩ := ha
        obtain ⟨a, rfl⟩ := Int.eq_ofNat_of_zero_le ha0
        exact main k n a W h1 (by omega) (by omega) hn
      · clear wk wn wa hn
        by_cases ha0 : a < 0
        · clear ha
          go_enter Try.func5, Try.ntmps5
          go_wp2_with fail
          refine (New_in 3 k W (by decide) (by decide) (by omega)).mono ?_
          rintro e w1 ⟨FT, bP, bC, bF, bs, rfl, hl, hS, hB, hlo⟩
          have HB := Lib.hid hB
          clear hS hB hlo hl
          go_wp2_with fail
          refine (live_any _).mono ?_
          rintro e w6 ⟨rfl, hb⟩
          have HB8 := Lib.hid (HB.out.trans (hb.mono HB.out.size))
          clear hb
          go_wp2
          go_ret
          exact ⟨rfl, HB8.out⟩
        · have ha1 : (k : Int) ≤ a := by omega
          clear ha
          go_enter Try.func5, Try.ntmps5
          go_wp2_with fail
          refine (New_in 3 k W (by decide) (by decide) (by omega)).mono ?_
          rintro e w1 ⟨FT, bP, bC, bF, bs, rfl, hl, hS, hB, hlo⟩
          have HB := Lib.hid hB
          clear hS hB hlo hl
          go_wp2_with fail
          refine (live_any _).mono ?_
          rintro e w6 ⟨rfl, hb⟩
          have HB8 := Lib.hid (HB.out.trans (hb.mono HB.out.size))
          clear hb
          go_wp2
          go_ret
          exact ⟨rfl, HB8.out⟩
    · have hk2 : ¬ 1 ≤ (k : Int) := by omega
      clear wk wn wa hn
      go_enter Try.func5, Try.ntmps5
      go_wp2_with fail
      refine (New_in 3 k W (by decide) (by decide) (by omega)).mono ?_
      rintro e w1 ⟨FT, bP, bC, bF, bs, rfl, hl, hS, hB, hlo⟩
      have HB := Lib.hid hB
      clear hS hB hlo hl
      go_wp2_with fail
      refine (live_any _).mono ?_
      rintro e w6 ⟨rfl, hb⟩
      have HB8 := Lib.hid (HB.out.trans (hb.mono HB.out.size))
      clear hb
      go_wp2
      go_ret
      exact ⟨rfl, HB8.out⟩
  · clear wk wn wa hn
    go_enter Try.func5, Try.ntmps5
    go_wp2_with fail
    refine (New_bad 3 k W (by omega)).mono ?_
    rintro e w1 ⟨rfl, rfl⟩
    go_wp2_with fail
    refine (live_any _).mono ?_
    rintro e w6 ⟨rfl, hb⟩
    have HB8 := Lib.hid hb
    clear hb
    go_wp2
    go_ret
    exact ⟨rfl, HB8.out⟩

theorem own : ownKnob Try.prog.godebug = none := by kernel_rfl
theorem laidOut : laidOutB Try.prog = true := by kernel_rfl
theorem contract (H : Type) (enc : TypeId × Value → H) (W : World) (base : Nat) (args : Array Value) (ds gs : List (DataW H)) (before : List MemPlace)
    (hval : ∀ (j : Nat) t v, Try.f5.params[j]? = some t → args[j]? = some v → Value.okWide Try.prog W .any base t v)
    (hW : DataW.Whole enc Try.prog Try.f5.params.toList Rows.slabOwnSpec.vars false W args.toList ds gs before) :
    Calls Try.prog 5 args W fun e W' => ∃ v, e = .returned v ∧ Rows.slabOwnSpec.post enc Try.prog Try.f5 false true false false W args v W' := by
  have hW' := hW
  obtain ⟨p, q, hA0, hV, rfl, hfz, hnd⟩ := hW
  have hA : DataW.TrodAll enc Try.prog W 0 (fun _ => true) true Try.f5.params.toList args.toList ds p := hA0
  rw [Try.params5] at hA hval
  obtain ⟨v0, vs0, d0, ds0, p0, q0, hargs, rfl, rfl, h0, r0⟩ := trodAll_cons hA
  obtain ⟨v1, vs1, d1, ds1, p1, q1, rfl, rfl, rfl, h1, r1⟩ := trodAll_cons r0
  obtain ⟨v2, vs2, d2, ds2, p2, q2, rfl, rfl, rfl, h2, r2⟩ := trodAll_cons r1
  obtain ⟨rfl, rfl, rfl⟩ := trodAll_nil r2
  obtain rfl : args = #[v0, v1, v2] := by cases args; simp_all
  obtain ⟨rfl, rfl⟩ := trodVars_none hV
  obtain ⟨a0, rfl, rfl, rfl, w0⟩ := open_int Try.underlying3 (hval 0 3 v0 rfl rfl) h0
  obtain ⟨a1, rfl, rfl, rfl, w1⟩ := open_int Try.underlying49 (hval 1 49 v1 rfl rfl) h1
  obtain ⟨a2, rfl, rfl, rfl, w2⟩ := open_int Try.underlying3 (hval 2 3 v2 rfl rfl) h2
  clear hA0
  refine (walk a0 a1 a2 w0 w1 w2 W).mono fun e W' ⟨he, bel⟩ => ?_
  subst he
  exact ⟨_, rfl, _, _, _, [], _, [], hW', trodAll_mk1 (shut_bool Try.underlying4 _), (trodAll_cons_mk (shut_int Try.underlying3 w0) (trodAll_cons_mk (shut_int Try.underlying49 w1) (trodAll_cons_mk (shut_int Try.underlying3 w2) trodAll_mk0))), rfl, bel.frame _, fun h => by cases h⟩

set_option maxRecDepth 100000 in
theorem lifted (os : Os) (started : os.Started) (H : Type) (enc : TypeId × Value → H) :
    ReturnsInHanded {} Try.checked os 5 .any (Rows.slabOwnSpec.pre6 enc Try.prog Try.f5 Rows.slabOwnRow.domain false) (Rows.slabOwnSpec.post enc Try.prog Try.f5 false true false false) := by
  refine returnsInHanded_of_change (C := Try.checked) own started (by kernel_rfl) Try.func5
    (ChangeSpec.witness6 (enc := enc) (C := Try.checked) false ⟨#[], #[.int .i64 0, .int .u64 0, .int .i64 0], []⟩ 8 (by kernel_rfl) (by kernel_rfl) (by kernel_rfl) (by kernel_rfl)) ?_
  intro W base args ds gs before hval hW _ _
  exact contract H enc W base args ds gs before hval hW

theorem over : Rows.slabOwnRow.holds Try.pinned (OpenSpec.ofChange Rows.slabOwnSpec) :=
  OpenClaim.holds_of_wide 5 Try.f5 rfl rfl rfl rfl rfl rfl rfl ⟨rfl, rfl, rfl, rfl, rfl⟩ rfl rfl rfl rfl rfl (by kernel_rfl) Try.func5 (by kernel_rfl)
    (of_decide_eq_true (by kernel_rfl)) (by unfold Func.isWrapper; first | (rw [if_pos (by decide +kernel)]; kernel_rfl) | (rw [if_neg (by decide +kernel)]; exact ⟨rfl, rfl⟩))
    (fun os started H enc _ => lifted os started H enc)
end Go.Proofs.Ytdchoaihbjmpbab.slabOwn
namespace Go.Proofs.Ytdchoaihbjmpbab
theorem slabOwn_proved : Rows.SlabOwnSaid := slabOwn.over
end Go.Proofs.Ytdchoaihbjmpbab

