/- A byte of a text. -/
import Derived.Test.YtgcdminjpdbchabFr1
namespace Go.Proofs.Ytgcdminjpdbchab
open Go.ChangeShapes Go.WideShapes Go.ChangeAt Go.RowKit
set_option linter.unusedVariables false

theorem keep_len {s : FrS} (h : s.ok) : s.k.length ≤ 514 := by
  rcases h with ⟨_, q, _⟩ | ⟨_, q⟩ | ⟨_, q, _⟩
  · omega
  · omega
  · rw [q]; simp
/-- Behind an append to what is kept. -/
theorem RdX.more {w0 w w1 : World} {r : Nat} {v0 a : Value} {x : Int} {f v : Value} {k : List UInt8} (h : RdX w0 r v0 a x f v k w) {b : UInt8} {g cap n : Nat} (hn : k.length = n) (ho : Own1 0 5 w1 (.slice (some ⟨g, 0, none⟩) (n + 1) cap) (bV k ++ [.int .u8 (b.toNat : Int)])) (hk : Kept (fun b => v.ownBlock = some b) w w1) (hor : v.ownBlock = some g ∨ w.heap.size ≤ g) : RdX w0 r v0 a x f (.slice (some ⟨g, 0, none⟩) (n + 1) cap) (k ++ [b]) w1 := by
  refine h.grown hk (by rw [bV_snoc]; exact ho) (fun g' hg' => ?_)
  have : g' = g := by simpa [Value.ownBlock] using hg'.symm
  subst this
  exact hor
theorem kept_bytes {w0 w : World} {r : Nat} {v0 a : Value} {x : Int} {f : Value} {k : List UInt8} {g n cap : Nat} (h : RdX w0 r v0 a x f (.slice (some ⟨g, 0, none⟩) n cap) k w) (j : Nat) (u : UInt8) (hj : k[j]? = some u) : w.cell? ⟨g, j, none⟩ = some (.int .u8 (u.toNat : Int)) := by
  have hne : bV k ≠ [] := by
    intro e
    have : (bV k).length = 0 := by rw [e]; rfl
    rw [bV_len] at this
    rw [List.length_eq_zero_iff.1 this] at hj
    simp at hj
  obtain ⟨g', cap', rest, e, _, _, hh, _⟩ := h.own.has hne
  have e2 : g = g' := by injection e with e1; injection e1 with e1; injection e1
  subst e2
  rw [hh.cell, List.getElem?_append_left (by rw [bV_len]; exact (List.getElem?_eq_some_iff.1 hj).1)]
  simp [bV, hj]
theorem kept_cap {w0 w : World} {r : Nat} {v0 a : Value} {x : Int} {f : Value} {k : List UInt8} {g n cap : Nat} (h : RdX w0 r v0 a x f (.slice (some ⟨g, 0, none⟩) n cap) k w) : n ≤ cap ∧ k.length = n := by
  rcases h.o.2 with ⟨e, _⟩ | ⟨g', cap', cur, e, _, _, hn, _⟩
  · cases e
  · injection e with e1 e2 e3
    subst e3; subst e2
    exact ⟨hn, rfl⟩
/-- What is told, laid. -/
theorem RdX.told {w0 w : World} {r : Nat} {v0 a : Value} {x : Int} {f v : Value} {k : List UInt8} (h : RdX w0 r v0 a x f v k w) {H : Nat} {p : List Value} (hr : Has w H 37 p) (hH : w0.heap.size ≤ H) (u0 u1 : Value) : RdX w0 r v0 a x f v k ((w.setCell ⟨H, 0, none⟩ u0).setCell ⟨H, 1, none⟩ u1) :=
  (h.far hr hH 0 u0).far (hr.store 0 u0) hH 1 u1
set_option maxRecDepth 100000 in
/-- A byte of a text, not the last one. -/
theorem readText_more (w : World) (r : Nat) (v : Value) (k : List UInt8) (y n : Nat) (b : UInt8) (hn : k.length = n) (k2 : 2 ≤ n) (hk : n ≤ 514) (hx : n - 2 + (y + 2) ≤ 512)  (h : Rd w r v ⟨1, k, y + 2⟩) : Calls Try.prog 20 #[.pointer (some ⟨r, 0, none⟩), .int .u8 (b.toNat : Int)] w (fun e w' => ∃ v', e = .returned (outP none) ∧ RdT w r v ⟨1, k ++ [b], y + 1⟩ v' w') := by
  have hlt := h.h.lt
  obtain ⟨c0, c1, c2⟩ := h.three
  have hl : ∀ i, w.frozen? ⟨r, i, none⟩ = false := h.h.loose
  have HX := Lib.hid h.toX
  replace c2 : w.cell? ⟨r, 2, none⟩ = some (.func (.func 20) #[] #[]) := c2
  replace c1 : w.cell? ⟨r, 1, none⟩ = some (.int .i64 ((y + 2 : Nat) : Int)) := c1
  replace c0 : w.cell? ⟨r, 0, none⟩ = some v := c0
  clear h
  have HO := Lib.hid ((HX.out.alloc (.cells #[.string ⟨#[]⟩, .int .i64 0] 37)).own)
  have LN := Lib.hid (show (bV k).length = n by rw [bV_len]; exact hn)
  have HN := Lib.hid hn
  have HKB := Lib.hid (show (k ++ [b]).length = n + 1 by simp [hn])
  have HR := Lib.hid (Has.made w 37 [.string ⟨#[]⟩, .int .i64 0])
  clear hn
  have e4 : decide (1 < (y : Int) + 2) = true := by exact decide_eq_true (by omega)
  have e5 : 1 < (y : Int) + 2 := by omega
  go_enter Try.func20, Try.ntmps20
  go_wp2_with (at_builtin; refine wpList_append_own1 (w.alloc (.cells #[.string ⟨#[]⟩, .int .i64 0] 37)) (w.heap.size + 1) (by simp) rfl _ _ 45 rfl 5 (.int .u8 0) 1 Try.underlying45 Try.infoU8 rfl (by decide) v (.int .u8 (b.toNat : Int)) (bV k) n LN.out rfl rfl rfl HO.out (by omega) (by omega) ?_)
  intro g cap w1 ho hk1 hor hg1
  have R1 := Lib.hid (HX.out.alloc (.cells #[.string ⟨#[]⟩, .int .i64 0] 37) |>.more HN.out ho hk1 (by simpa using hor))
  have HR1 := Lib.hid (HR.out.kept hk1 (fun q => owns_ne HO.out.1 q HR.out (by decide) rfl))
  obtain ⟨d0, d1, d2⟩ := R1.out.three
  have e0 := HR1.out.cell 0
  have e1 := HR1.out.cell 1
  simp at e0 e1
  have m1 : ∀ i, w1.frozen? ⟨r, i, none⟩ = false := R1.out.h.loose
  have m2 : ∀ i, w1.frozen? ⟨w.heap.size, i, none⟩ = false := HR1.out.loose
  have ne1 : ¬ r = w.heap.size := by omega
  have ne2 : ¬ w.heap.size = r := by omega
  replace d2 : w1.cell? ⟨r, 2, none⟩ = some (.func (.func 20) #[] #[]) := d2
  clear ho hk1 hor hg1 c0 c1 c2 hl
  go_wp2
  refine bodyPost_ret (v := .tuple #[.agg #[.string ⟨#[]⟩, .int .i64 0], .bool false]) (by simp [results, Try.results20, go_sem, e0, e1]) rfl ⟨_, rfl, (((R1.out.put0 _).put1 _).told ((HR1.out.apart (p := ⟨r, 0, none⟩) ne2 _).apart (p := ⟨r, 1, none⟩) ne2 _) (Nat.le_refl _) _ _).to rfl (by show (y : Int) + 2 - 1 = ((y + 1 : Nat) : Int); omega) rfl (.inr (.inl ⟨rfl, by show 2 ≤ (k ++ [b]).length; rw [HKB.out]; omega, by show 1 ≤ y + 1; omega, by show (k ++ [b]).length - 2 + (y + 1) ≤ 512; rw [HKB.out]; omega⟩))⟩
set_option maxRecDepth 100000 in
/-- The last byte of a text. -/
theorem readText_last (w : World) (r : Nat) (v : Value) (k : List UInt8) (y n : Nat) (b : UInt8) (hn : k.length = n) (k2 : 2 ≤ n) (hk : n ≤ 514)  (h : Rd w r v ⟨1, k, 1⟩) : Calls Try.prog 20 #[.pointer (some ⟨r, 0, none⟩), .int .u8 (b.toNat : Int)] w (fun e w' => ∃ v', e = .returned (outP (some (textP ((k ++ [b]).drop 2)))) ∧ RdT w r v FrS.new v' w') := by
  have hlt := h.h.lt
  obtain ⟨c0, c1, c2⟩ := h.three
  have hl : ∀ i, w.frozen? ⟨r, i, none⟩ = false := h.h.loose
  have HX := Lib.hid h.toX
  replace c2 : w.cell? ⟨r, 2, none⟩ = some (.func (.func 20) #[] #[]) := c2
  replace c1 : w.cell? ⟨r, 1, none⟩ = some (.int .i64 ((1 : Nat) : Int)) := c1
  replace c0 : w.cell? ⟨r, 0, none⟩ = some v := c0
  clear h
  have HO := Lib.hid ((HX.out.alloc (.cells #[.string ⟨#[]⟩, .int .i64 0] 37)).own)
  have LN := Lib.hid (show (bV k).length = n by rw [bV_len]; exact hn)
  have HN := Lib.hid hn
  have HKB := Lib.hid (show (k ++ [b]).length = n + 1 by simp [hn])
  have HR := Lib.hid (Has.made w 37 [.string ⟨#[]⟩, .int .i64 0])
  clear hn
  skip
  go_enter Try.func20, Try.ntmps20
  go_wp2_with (at_builtin; refine wpList_append_own1 (w.alloc (.cells #[.string ⟨#[]⟩, .int .i64 0] 37)) (w.heap.size + 1) (by simp) rfl _ _ 45 rfl 5 (.int .u8 0) 1 Try.underlying45 Try.infoU8 rfl (by decide) v (.int .u8 (b.toNat : Int)) (bV k) n LN.out rfl rfl rfl HO.out (by omega) (by omega) ?_)
  intro g cap w1 ho hk1 hor hg1
  have R1 := Lib.hid (HX.out.alloc (.cells #[.string ⟨#[]⟩, .int .i64 0] 37) |>.more HN.out ho hk1 (by simpa using hor))
  have HR1 := Lib.hid (HR.out.kept hk1 (fun q => owns_ne HO.out.1 q HR.out (by decide) rfl))
  obtain ⟨d0, d1, d2⟩ := R1.out.three
  have e0 := HR1.out.cell 0
  have e1 := HR1.out.cell 1
  simp at e0 e1
  have m1 : ∀ i, w1.frozen? ⟨r, i, none⟩ = false := R1.out.h.loose
  have m2 : ∀ i, w1.frozen? ⟨w.heap.size, i, none⟩ = false := HR1.out.loose
  have ne1 : ¬ r = w.heap.size := by omega
  have ne2 : ¬ w.heap.size = r := by omega
  replace d2 : w1.cell? ⟨r, 2, none⟩ = some (.func (.func 20) #[] #[]) := d2
  clear ho hk1 hor hg1 c0 c1 c2 hl
  have hcc := (kept_cap R1.out).1
  have hc2 : ¬ cap = 2 := by omega
  have hcv := bytes_back ((w1.setCell ⟨r, 0, none⟩ (.slice (some ⟨g, 0, none⟩) (n + 1) cap)).setCell ⟨r, 1, none⟩ (.int .i64 0)) g 2 (cap - 2) ((k ++ [b]).drop 2) (n - 1) (by rw [List.length_drop, List.length_append, HN.out]; show n + 1 - 2 = n - 1; omega) (fun j u hj => by
    rw [List.getElem?_drop] at hj
    exact kept_bytes ((R1.out.put0 _).put1 _) _ u hj)
  go_wp2
  have R2 := ((((R1.out.put0 (.slice (some ⟨g, 0, none⟩) (n + 1) cap)).put1 0).bare.put0 (.slice none 0 0)).put2 (.func (.func 15) #[] #[]))
  refine bodyPost_ret (v := .tuple #[.agg #[.string ⟨((k ++ [b]).drop 2).toArray⟩, .int .i64 0], .bool true]) (by simp [results, Try.results20, go_sem, e0, e1]) rfl ⟨_, rfl, (R2.told ((((HR1.out.apart (p := ⟨r, 0, none⟩) ne2 _).apart (p := ⟨r, 1, none⟩) ne2 _).apart (p := ⟨r, 0, none⟩) ne2 _).apart (p := ⟨r, 2, none⟩) ne2 _) (Nat.le_refl _) _ _).to rfl rfl rfl ok_new⟩
end Go.Proofs.Ytgcdminjpdbchab
