/- A byte of a head. -/
import Derived.Test.YtgcdminjpdbchabFr2
import Derived.Test.YtgcdminjpdbchabNums3
namespace Go.Proofs.Ytgcdminjpdbchab
open Go.ChangeShapes Go.WideShapes Go.ChangeAt Go.RowKit
set_option linter.unusedVariables false

theorem good_yes (n : Nat) (w : World) (h : 1 ≤ n ∧ n ≤ 512) : Calls Try.prog 17 #[.int .i64 (n : Int)] w fun e w' => e = .returned (.bool true) ∧ w = w' := by
  obtain ⟨h1, h2⟩ := h
  have a1 : (1 : Int) ≤ n := by omega
  have a2 : (n : Int) ≤ 512 := by omega
  go_enter Try.func17, Try.ntmps17
  go_wp2
  go_ret
  first | exact ⟨rfl, rfl⟩ | exact ⟨by simp [a1, a2], rfl⟩
theorem good_no (n : Nat) (w : World) (h : ¬ (1 ≤ n ∧ n ≤ 512)) (hm : n ≤ maxLen) : Calls Try.prog 17 #[.int .i64 (n : Int)] w fun e w' => e = .returned (.bool false) ∧ w = w' := by
  by_cases h1 : 1 ≤ n
  · have a1 : (1 : Int) ≤ n := by omega
    have a2 : ¬ (n : Int) ≤ 512 := by omega
    clear h
    go_enter Try.func17, Try.ntmps17
    go_wp2
    go_ret
    first | exact ⟨rfl, rfl⟩ | exact ⟨by simp [a1, a2], rfl⟩
  · have a1 : ¬ (1 : Int) ≤ n := by omega
    clear h
    go_enter Try.func17, Try.ntmps17
    go_wp2
    go_ret
    first | exact ⟨rfl, rfl⟩ | exact ⟨by simp [a1], rfl⟩
theorem numB_two (a b : UInt8) : numB [a, b] = ((lenN a b : Nat) : Int) := by unfold numB lenN; simp
set_option maxRecDepth 100000 in
/-- The first byte of a head. -/
theorem readHead_one (w : World) (r : Nat) (v : Value) (b : UInt8) (h : Rd w r v ⟨0, [], 0⟩) : Calls Try.prog 15 #[.pointer (some ⟨r, 0, none⟩), .int .u8 (b.toNat : Int)] w fun e w' => ∃ v', e = .returned (outP none) ∧ RdT w r v ⟨0, [b], 0⟩ v' w' := by
  have hlt := h.h.lt
  obtain ⟨c0, c1, c2⟩ := h.three
  have hl : ∀ i, w.frozen? ⟨r, i, none⟩ = false := h.h.loose
  have HX := Lib.hid h.toX
  replace c2 : w.cell? ⟨r, 2, none⟩ = some (.func (.func 15) #[] #[]) := c2
  replace c1 : w.cell? ⟨r, 1, none⟩ = some (.int .i64 0) := c1
  replace c0 : w.cell? ⟨r, 0, none⟩ = some v := c0
  clear h
  have HO := Lib.hid ((HX.out.alloc (.cells #[.string ⟨#[]⟩, .int .i64 0] 37)).own)
  have HN := Lib.hid (show ([] : List UInt8).length = 0 from rfl)
  have HR := Lib.hid (Has.made w 37 [.string ⟨#[]⟩, .int .i64 0])
  skip
  go_enter Try.func15, Try.ntmps15
  go_wp2_with (at_builtin; refine wpList_append_own1 (w.alloc (.cells #[.string ⟨#[]⟩, .int .i64 0] 37)) (w.heap.size + 1) (by simp) rfl _ _ 45 rfl 5 (.int .u8 0) 1 Try.underlying45 Try.infoU8 rfl (by decide) v (.int .u8 (b.toNat : Int)) (bV []) 0 rfl rfl rfl rfl HO.out (by omega) (by omega) ?_)
  intro g cap w1 ho hk1 hor hg1
  have R1 := Lib.hid (HX.out.alloc (.cells #[.string ⟨#[]⟩, .int .i64 0] 37) |>.more HN.out ho hk1 (by simpa using hor))
  have HR1 := Lib.hid (HR.out.kept hk1 (fun q => owns_ne HO.out.1 q HR.out (by decide) rfl))
  obtain ⟨d0, d1, d2⟩ := R1.out.three
  have e0 := HR1.out.cell 0
  have e1 := HR1.out.cell 1
  simp at e0 e1
  have m1 : ∀ i, w1.frozen? ⟨r, i, none⟩ = false := R1.out.h.loose
  have m2 : ∀ i, w1.frozen? ⟨w.heap.size, i, none⟩ = false := HR1.out.loose
  have ne1 : ¬ r = w.heap.size := by omega
  have ne2 : ¬ w.heap.size = r := by omega
  replace d2 : w1.cell? ⟨r, 2, none⟩ = some (.func (.func 15) #[] #[]) := d2
  clear ho hk1 hor hg1 c0 c1 c2 hl
  go_wp2
  refine bodyPost_ret (v := .tuple #[.agg #[.string ⟨#[]⟩, .int .i64 0], .bool false]) (by simp [results, Try.results15, go_sem, e0, e1]) rfl ⟨_, rfl, ((R1.out.put0 _).told (HR1.out.apart (p := ⟨r, 0, none⟩) ne2 _) (Nat.le_refl _) _ _).to rfl rfl rfl (.inl ⟨rfl, Nat.le_refl 1, rfl⟩)⟩
set_option maxRecDepth 100000 in
/-- The second byte of a head that is good. -/
theorem readHead_good (w : World) (r : Nat) (v : Value) (a : UInt8) (b : UInt8) (hc : 1 ≤ lenN a b ∧ lenN a b ≤ 512) (h : Rd w r v ⟨0, [a], 0⟩) : Calls Try.prog 15 #[.pointer (some ⟨r, 0, none⟩), .int .u8 (b.toNat : Int)] w fun e w' => ∃ v', e = .returned (outP none) ∧ RdT w r v ⟨1, [a, b], lenN a b⟩ v' w' := by
  have hlt := h.h.lt
  obtain ⟨c0, c1, c2⟩ := h.three
  have hl : ∀ i, w.frozen? ⟨r, i, none⟩ = false := h.h.loose
  have HX := Lib.hid h.toX
  replace c2 : w.cell? ⟨r, 2, none⟩ = some (.func (.func 15) #[] #[]) := c2
  replace c1 : w.cell? ⟨r, 1, none⟩ = some (.int .i64 0) := c1
  replace c0 : w.cell? ⟨r, 0, none⟩ = some v := c0
  clear h
  have HO := Lib.hid ((HX.out.alloc (.cells #[.string ⟨#[]⟩, .int .i64 0] 37)).own)
  have HN := Lib.hid (show ([a] : List UInt8).length = 1 from rfl)
  have HR := Lib.hid (Has.made w 37 [.string ⟨#[]⟩, .int .i64 0])
  obtain ⟨L, hL⟩ : ∃ L, lenN a b = L := ⟨_, rfl⟩
  have LE := Lib.hid (show numB [a, b] = ((L : Nat) : Int) by rw [numB_two, hL])
  have hL2 : L ≤ 65535 := by rw [← hL]; exact lenN_lt a b
  rw [hL] at hc
  try rw [hL]
  clear hL
  skip
  go_enter Try.func15, Try.ntmps15
  go_wp2_with (at_builtin; refine wpList_append_own1 (w.alloc (.cells #[.string ⟨#[]⟩, .int .i64 0] 37)) (w.heap.size + 1) (by simp) rfl _ _ 45 rfl 5 (.int .u8 0) 1 Try.underlying45 Try.infoU8 rfl (by decide) v (.int .u8 (b.toNat : Int)) (bV [a]) 1 rfl rfl rfl rfl HO.out (by omega) (by omega) ?_)
  intro g cap w1 ho hk1 hor hg1
  have R1 := Lib.hid (HX.out.alloc (.cells #[.string ⟨#[]⟩, .int .i64 0] 37) |>.more HN.out ho hk1 (by simpa using hor))
  have HR1 := Lib.hid (HR.out.kept hk1 (fun q => owns_ne HO.out.1 q HR.out (by decide) rfl))
  obtain ⟨d0, d1, d2⟩ := R1.out.three
  have e0 := HR1.out.cell 0
  have e1 := HR1.out.cell 1
  simp at e0 e1
  have m1 : ∀ i, w1.frozen? ⟨r, i, none⟩ = false := R1.out.h.loose
  have m2 : ∀ i, w1.frozen? ⟨w.heap.size, i, none⟩ = false := HR1.out.loose
  have ne1 : ¬ r = w.heap.size := by omega
  have ne2 : ¬ w.heap.size = r := by omega
  replace d2 : w1.cell? ⟨r, 2, none⟩ = some (.func (.func 15) #[] #[]) := d2
  clear ho hk1 hor hg1 c0 c1 c2 hl
  have hcv : ∀ q, (convert 45 9 (.slice (some ⟨g, 0, none⟩) 2 q)).run Try.prog (w1.setCell ⟨r, 0, none⟩ (.slice (some ⟨g, 0, none⟩) 2 cap)) = .ok (.string ⟨#[a, b]⟩) (w1.setCell ⟨r, 0, none⟩ (.slice (some ⟨g, 0, none⟩) 2 cap)) := fun q => bytes_back (w1.setCell ⟨r, 0, none⟩ (.slice (some ⟨g, 0, none⟩) 2 cap)) g 0 q [a, b] 2 rfl (fun j u hj => by
    rw [Nat.zero_add]
    exact kept_bytes (R1.out.put0 _) _ u hj)
  go_wp2_with (first | (go_at_call 19; refine (Narrow_yes ⟨#[a, b]⟩ _ (by show 2 ≤ 8; omega)).mono ?_; rintro e wn ⟨rfl, rfl⟩; rw [show numB (ByteArray.data ⟨#[a, b]⟩).toList = ((L : Nat) : Int) from LE.out]) | (go_at_call 17; refine (good_yes L _ hc).mono ?_; rintro e wn ⟨rfl, rfl⟩))
  refine bodyPost_ret (v := .tuple #[.agg #[.string ⟨#[]⟩, .int .i64 0], .bool false]) (by simp [results, Try.results15, go_sem, e0, e1]) rfl ⟨_, rfl, ((((R1.out.put0 _).put1 _).put2 _).told (((HR1.out.apart (p := ⟨r, 0, none⟩) ne2 _).apart (p := ⟨r, 1, none⟩) ne2 _).apart (p := ⟨r, 2, none⟩) ne2 _) (Nat.le_refl _) _ _).to rfl rfl rfl (.inr (.inl ⟨rfl, by show 2 ≤ 2; omega, hc.1, by show 2 - 2 + L ≤ 512; omega⟩))⟩
set_option maxRecDepth 100000 in
/-- The second byte of a head of no bytes. -/
theorem readHead_none (w : World) (r : Nat) (v : Value) (a : UInt8) (b : UInt8) (hc : lenN a b = 0) (h : Rd w r v ⟨0, [a], 0⟩) : Calls Try.prog 15 #[.pointer (some ⟨r, 0, none⟩), .int .u8 (b.toNat : Int)] w fun e w' => ∃ v', e = .returned (outP (some bigP)) ∧ RdT w r v FrS.new v' w' := by
  have hlt := h.h.lt
  obtain ⟨c0, c1, c2⟩ := h.three
  have hl : ∀ i, w.frozen? ⟨r, i, none⟩ = false := h.h.loose
  have HX := Lib.hid h.toX
  replace c2 : w.cell? ⟨r, 2, none⟩ = some (.func (.func 15) #[] #[]) := c2
  replace c1 : w.cell? ⟨r, 1, none⟩ = some (.int .i64 0) := c1
  replace c0 : w.cell? ⟨r, 0, none⟩ = some v := c0
  clear h
  have HO := Lib.hid ((HX.out.alloc (.cells #[.string ⟨#[]⟩, .int .i64 0] 37)).own)
  have HN := Lib.hid (show ([a] : List UInt8).length = 1 from rfl)
  have HR := Lib.hid (Has.made w 37 [.string ⟨#[]⟩, .int .i64 0])
  obtain ⟨L, hL⟩ : ∃ L, lenN a b = L := ⟨_, rfl⟩
  have LE := Lib.hid (show numB [a, b] = ((L : Nat) : Int) by rw [numB_two, hL])
  have hL2 : L ≤ 65535 := by rw [← hL]; exact lenN_lt a b
  rw [hL] at hc
  try rw [hL]
  clear hL
  have a1 : decide (0 < (L : Int)) = false := decide_eq_false (by omega)
  have a2 : ¬ 0 < (L : Int) := by omega
  have a3 : ¬ 0 < L := by omega
  have a4 : decide (0 < L) = false := decide_eq_false (by omega)
  have HC := Lib.hid hc
  clear hc
  go_enter Try.func15, Try.ntmps15
  go_wp2_with (at_builtin; refine wpList_append_own1 (w.alloc (.cells #[.string ⟨#[]⟩, .int .i64 0] 37)) (w.heap.size + 1) (by simp) rfl _ _ 45 rfl 5 (.int .u8 0) 1 Try.underlying45 Try.infoU8 rfl (by decide) v (.int .u8 (b.toNat : Int)) (bV [a]) 1 rfl rfl rfl rfl HO.out (by omega) (by omega) ?_)
  intro g cap w1 ho hk1 hor hg1
  have R1 := Lib.hid (HX.out.alloc (.cells #[.string ⟨#[]⟩, .int .i64 0] 37) |>.more HN.out ho hk1 (by simpa using hor))
  have HR1 := Lib.hid (HR.out.kept hk1 (fun q => owns_ne HO.out.1 q HR.out (by decide) rfl))
  obtain ⟨d0, d1, d2⟩ := R1.out.three
  have e0 := HR1.out.cell 0
  have e1 := HR1.out.cell 1
  simp at e0 e1
  have m1 : ∀ i, w1.frozen? ⟨r, i, none⟩ = false := R1.out.h.loose
  have m2 : ∀ i, w1.frozen? ⟨w.heap.size, i, none⟩ = false := HR1.out.loose
  have ne1 : ¬ r = w.heap.size := by omega
  have ne2 : ¬ w.heap.size = r := by omega
  replace d2 : w1.cell? ⟨r, 2, none⟩ = some (.func (.func 15) #[] #[]) := d2
  clear ho hk1 hor hg1 c0 c1 c2 hl
  have hcv : ∀ q, (convert 45 9 (.slice (some ⟨g, 0, none⟩) 2 q)).run Try.prog (w1.setCell ⟨r, 0, none⟩ (.slice (some ⟨g, 0, none⟩) 2 cap)) = .ok (.string ⟨#[a, b]⟩) (w1.setCell ⟨r, 0, none⟩ (.slice (some ⟨g, 0, none⟩) 2 cap)) := fun q => bytes_back (w1.setCell ⟨r, 0, none⟩ (.slice (some ⟨g, 0, none⟩) 2 cap)) g 0 q [a, b] 2 rfl (fun j u hj => by
    rw [Nat.zero_add]
    exact kept_bytes (R1.out.put0 _) _ u hj)
  go_wp2_with (first | (go_at_call 19; refine (Narrow_yes ⟨#[a, b]⟩ _ (by show 2 ≤ 8; omega)).mono ?_; rintro e wn ⟨rfl, rfl⟩; rw [show numB (ByteArray.data ⟨#[a, b]⟩).toList = ((L : Nat) : Int) from LE.out]) | (go_at_call 17; refine (good_no L _ (by omega) (by unfold maxLen; omega)).mono ?_; rintro e wn ⟨rfl, rfl⟩))
  refine bodyPost_ret (v := .tuple #[.agg #[.string ⟨#[]⟩, .int .i64 8], .bool true]) (by simp [results, Try.results15, go_sem, e0, e1]) rfl ⟨_, rfl, ((((R1.out.put0 _).put1 _).bare.put0 (.slice none 0 0)).told (((HR1.out.apart (p := ⟨r, 0, none⟩) ne2 _).apart (p := ⟨r, 1, none⟩) ne2 _).apart (p := ⟨r, 0, none⟩) ne2 _) (Nat.le_refl _) _ _).to rfl (by rw [HC.out]; rfl) rfl ok_new⟩
set_option maxRecDepth 100000 in
/-- The second byte of a head that is not good. -/
theorem readHead_bad (w : World) (r : Nat) (v : Value) (a : UInt8) (b : UInt8) (hc : 512 < lenN a b) (h : Rd w r v ⟨0, [a], 0⟩) : Calls Try.prog 15 #[.pointer (some ⟨r, 0, none⟩), .int .u8 (b.toNat : Int)] w fun e w' => ∃ v', e = .returned (outP (some bigP)) ∧ RdT w r v ⟨2, [], lenN a b⟩ v' w' := by
  have hlt := h.h.lt
  obtain ⟨c0, c1, c2⟩ := h.three
  have hl : ∀ i, w.frozen? ⟨r, i, none⟩ = false := h.h.loose
  have HX := Lib.hid h.toX
  replace c2 : w.cell? ⟨r, 2, none⟩ = some (.func (.func 15) #[] #[]) := c2
  replace c1 : w.cell? ⟨r, 1, none⟩ = some (.int .i64 0) := c1
  replace c0 : w.cell? ⟨r, 0, none⟩ = some v := c0
  clear h
  have HO := Lib.hid ((HX.out.alloc (.cells #[.string ⟨#[]⟩, .int .i64 0] 37)).own)
  have HN := Lib.hid (show ([a] : List UInt8).length = 1 from rfl)
  have HR := Lib.hid (Has.made w 37 [.string ⟨#[]⟩, .int .i64 0])
  obtain ⟨L, hL⟩ : ∃ L, lenN a b = L := ⟨_, rfl⟩
  have LE := Lib.hid (show numB [a, b] = ((L : Nat) : Int) by rw [numB_two, hL])
  have hL2 : L ≤ 65535 := by rw [← hL]; exact lenN_lt a b
  rw [hL] at hc
  try rw [hL]
  clear hL
  have a1 : decide (0 < (L : Int)) = true := decide_eq_true (by omega)
  have a2 : 0 < (L : Int) := by omega
  have a3 : 0 < L := by omega
  have a4 : decide (0 < L) = true := decide_eq_true (by omega)
  go_enter Try.func15, Try.ntmps15
  go_wp2_with (at_builtin; refine wpList_append_own1 (w.alloc (.cells #[.string ⟨#[]⟩, .int .i64 0] 37)) (w.heap.size + 1) (by simp) rfl _ _ 45 rfl 5 (.int .u8 0) 1 Try.underlying45 Try.infoU8 rfl (by decide) v (.int .u8 (b.toNat : Int)) (bV [a]) 1 rfl rfl rfl rfl HO.out (by omega) (by omega) ?_)
  intro g cap w1 ho hk1 hor hg1
  have R1 := Lib.hid (HX.out.alloc (.cells #[.string ⟨#[]⟩, .int .i64 0] 37) |>.more HN.out ho hk1 (by simpa using hor))
  have HR1 := Lib.hid (HR.out.kept hk1 (fun q => owns_ne HO.out.1 q HR.out (by decide) rfl))
  obtain ⟨d0, d1, d2⟩ := R1.out.three
  have e0 := HR1.out.cell 0
  have e1 := HR1.out.cell 1
  simp at e0 e1
  have m1 : ∀ i, w1.frozen? ⟨r, i, none⟩ = false := R1.out.h.loose
  have m2 : ∀ i, w1.frozen? ⟨w.heap.size, i, none⟩ = false := HR1.out.loose
  have ne1 : ¬ r = w.heap.size := by omega
  have ne2 : ¬ w.heap.size = r := by omega
  replace d2 : w1.cell? ⟨r, 2, none⟩ = some (.func (.func 15) #[] #[]) := d2
  clear ho hk1 hor hg1 c0 c1 c2 hl
  have hcv : ∀ q, (convert 45 9 (.slice (some ⟨g, 0, none⟩) 2 q)).run Try.prog (w1.setCell ⟨r, 0, none⟩ (.slice (some ⟨g, 0, none⟩) 2 cap)) = .ok (.string ⟨#[a, b]⟩) (w1.setCell ⟨r, 0, none⟩ (.slice (some ⟨g, 0, none⟩) 2 cap)) := fun q => bytes_back (w1.setCell ⟨r, 0, none⟩ (.slice (some ⟨g, 0, none⟩) 2 cap)) g 0 q [a, b] 2 rfl (fun j u hj => by
    rw [Nat.zero_add]
    exact kept_bytes (R1.out.put0 _) _ u hj)
  go_wp2_with (first | (go_at_call 19; refine (Narrow_yes ⟨#[a, b]⟩ _ (by show 2 ≤ 8; omega)).mono ?_; rintro e wn ⟨rfl, rfl⟩; rw [show numB (ByteArray.data ⟨#[a, b]⟩).toList = ((L : Nat) : Int) from LE.out]) | (go_at_call 17; refine (good_no L _ (by omega) (by unfold maxLen; omega)).mono ?_; rintro e wn ⟨rfl, rfl⟩))
  refine bodyPost_ret (v := .tuple #[.agg #[.string ⟨#[]⟩, .int .i64 8], .bool true]) (by simp [results, Try.results15, go_sem, e0, e1]) rfl ⟨_, rfl, (((((R1.out.put0 _).put1 _).bare.put0 (.slice none 0 0)).put2 _).told ((((HR1.out.apart (p := ⟨r, 0, none⟩) ne2 _).apart (p := ⟨r, 1, none⟩) ne2 _).apart (p := ⟨r, 0, none⟩) ne2 _).apart (p := ⟨r, 2, none⟩) ne2 _) (Nat.le_refl _) _ _).to rfl rfl rfl (.inr (.inr ⟨rfl, rfl, by show 1 ≤ L; omega, hL2⟩))⟩
end Go.Proofs.Ytgcdminjpdbchab
