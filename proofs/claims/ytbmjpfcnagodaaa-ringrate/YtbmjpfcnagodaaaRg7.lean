/- The contracts of ring's Total and of the document's, of cells that may be. WRITTEN BY gen_rg7.py. -/
import Derived.Test.YtbmjpfcnagodaaaRg6
import Derived.Test.YtbmjpfcnagodaaaRgPure
-- prune
namespace Go.Proofs.Ytbmjpfcnagodaaa
open Go.ChangeShapes Go.WideShapes Go.ChangeAt Go.RowKit
set_option linter.unusedVariables false

/-- The time at which an ask is done. -/
def tmax (t a : Int) : Int := if t ≤ a then a else t
theorem MaySums.bd {l b N : Int} {sn : Nat} {f : Nat → Int} (h : MaySums l b N sn f) (hl : l ≤ 1048576) : ∀ i, i < sn → 0 ≤ f i ∧ f i ≤ 1048576 := fun i hi => ⟨(h.each i hi).1, by have := (h.each i hi).2.1; omega⟩

set_option maxRecDepth 100000 in
set_option maxHeartbeats 1000000 in
theorem Total_lo (k l v b sl a t : Int) (sa ha : Option Addr) (sn sc hc : Nat) (f : Nat → Int) (w : World) (h : RP k l v b sl) (a1 : 0 ≤ a) (a2 : a ≤ 1099511627776) (hm : MaySums l b (a / sl) sn f) (hf : SumsAt w sa sn f) (t1 : 0 ≤ t) (t2 : t ≤ 1099511627776) (hle : t < a) :
    Calls Try.prog 15 #[.agg #[.int .i64 k, .int .i64 l, .int .i64 v, .int .i64 b], .agg #[.int .i64 a, .int .i64 0, .slice sa sn sc, .slice ha 0 hc], .int .i64 t] w fun e w' => e = .returned (.int .i64 (tsum (sn := sn) (a / sl * sl) sl b (a / sl) f a (upL sn sn))) ∧ Below w.heap.size w w' := by
  have MK := Lib.hid (fun u (hu : Below w.heap.size w u) => May_yes k l v b sl a sa ha sn sc hc f u h a1 a2 hm (hf.below hu))
  have TK := Lib.hid (fun u => isTick_yes t u t1 t2)
  obtain ⟨l1, l2, v1, v2, b1, b2, s1, s2, _⟩ := h.bd
  have LV := Lib.hid (fun u (hu : Below w.heap.size w u) => total_any k l v b sl a 0 a sa ha sn sc 0 hc f u h a1 a2 rfl hm.len (hf.below hu) (hm.bd l2))
  have HP := Lib.hid (PC.made w k l v b a 0 (.slice sa sn sc) (.slice ha 0 hc) 23 27)
  clear h hm hf
  generalize (tsum (sn := sn) (a / sl * sl) sl b (a / sl) f a (upL sn sn)) = RES at *
  go_enter Try.func15, Try.ntmps15
  go_wp2_with fail
  refine (MK.out _ HP.out.be).mono ?_; rintro e w1 ⟨rfl, hb⟩
  have H1 := Lib.hid (HP.out.step hb)
  clear hb HP MK
  obtain ⟨z0, z1, z2, z3, z4, z5, z6, z7⟩ := H1.out.eight
  go_wp2_with fail
  refine (TK.out _).mono ?_; rintro e w' ⟨rfl, rfl⟩
  go_wp2_with fail
  refine (LV.out _ H1.out.be).mono ?_; rintro e w2 ⟨rfl, hb⟩
  have H2 := Lib.hid (H1.out.step hb)
  clear hb
  go_wp2_with fail
  go_ret
  exact ⟨rfl, H2.out.be⟩

set_option maxRecDepth 100000 in
set_option maxHeartbeats 1000000 in
theorem Total_hi (k l v b sl a t : Int) (sa ha : Option Addr) (sn sc hc : Nat) (f : Nat → Int) (w : World) (h : RP k l v b sl) (a1 : 0 ≤ a) (a2 : a ≤ 1099511627776) (hm : MaySums l b (a / sl) sn f) (hf : SumsAt w sa sn f) (t1 : 0 ≤ t) (t2 : t ≤ 1099511627776) (hle : a ≤ t) :
    Calls Try.prog 15 #[.agg #[.int .i64 k, .int .i64 l, .int .i64 v, .int .i64 b], .agg #[.int .i64 a, .int .i64 0, .slice sa sn sc, .slice ha 0 hc], .int .i64 t] w fun e w' => e = .returned (.int .i64 (tsum (sn := sn) (a / sl * sl) sl b (a / sl) f t (upL sn sn))) ∧ Below w.heap.size w w' := by
  have MK := Lib.hid (fun u (hu : Below w.heap.size w u) => May_yes k l v b sl a sa ha sn sc hc f u h a1 a2 hm (hf.below hu))
  have TK := Lib.hid (fun u => isTick_yes t u t1 t2)
  obtain ⟨l1, l2, v1, v2, b1, b2, s1, s2, _⟩ := h.bd
  have LV := Lib.hid (fun u (hu : Below w.heap.size w u) => total_any k l v b sl a 0 t sa ha sn sc 0 hc f u h a1 a2 rfl hm.len (hf.below hu) (hm.bd l2))
  have HP := Lib.hid (PC.made w k l v b a 0 (.slice sa sn sc) (.slice ha 0 hc) 23 27)
  clear h hm hf
  generalize (tsum (sn := sn) (a / sl * sl) sl b (a / sl) f t (upL sn sn)) = RES at *
  go_enter Try.func15, Try.ntmps15
  go_wp2_with fail
  refine (MK.out _ HP.out.be).mono ?_; rintro e w1 ⟨rfl, hb⟩
  have H1 := Lib.hid (HP.out.step hb)
  clear hb HP MK
  obtain ⟨z0, z1, z2, z3, z4, z5, z6, z7⟩ := H1.out.eight
  go_wp2_with fail
  refine (TK.out _).mono ?_; rintro e w' ⟨rfl, rfl⟩
  go_wp2_with fail
  refine (LV.out _ H1.out.be).mono ?_; rintro e w2 ⟨rfl, hb⟩
  have H2 := Lib.hid (H1.out.step hb)
  clear hb
  go_wp2_with fail
  go_ret
  exact ⟨rfl, H2.out.be⟩
theorem Total_yes (k l v b sl a t : Int) (sa ha : Option Addr) (sn sc hc : Nat) (f : Nat → Int) (w : World) (h : RP k l v b sl) (a1 : 0 ≤ a) (a2 : a ≤ 1099511627776) (hm : MaySums l b (a / sl) sn f) (hf : SumsAt w sa sn f) (t1 : 0 ≤ t) (t2 : t ≤ 1099511627776) :
    Calls Try.prog 15 #[.agg #[.int .i64 k, .int .i64 l, .int .i64 v, .int .i64 b], .agg #[.int .i64 a, .int .i64 0, .slice sa sn sc, .slice ha 0 hc], .int .i64 t] w fun e w' => e = .returned (.int .i64 (cntV b (a / sl) (tmax t a / sl) sn f)) ∧ Below w.heap.size w w' := by
  obtain ⟨l1, l2, v1, v2, b1, b2, s1, s2, _⟩ := h.bd
  obtain ⟨d0, d1⟩ := div_bd a1 s1
  by_cases hle : t < a
  · have e : tmax t a = a := by unfold tmax; split <;> omega
    rw [e, ← counts_eq s1 b1 d0 (Int.le_refl _) hm]
    exact Total_lo k l v b sl a t sa ha sn sc hc f w h a1 a2 hm hf t1 t2 hle
  · have e : tmax t a = t := by unfold tmax; split <;> omega
    rw [e, ← counts_eq s1 b1 d0 (Int.ediv_le_ediv (by omega) (by omega)) hm]
    exact Total_hi k l v b sl a t sa ha sn sc hc f w h a1 a2 hm hf t1 t2 (by omega)

set_option maxRecDepth 100000 in
set_option maxHeartbeats 1000000 in
theorem rTotal_lo (k l v b sl a t : Int) (sa ha : Option Addr) (sn sc hc : Nat) (f : Nat → Int) (w : World) (h : RP k l v b sl) (a1 : 0 ≤ a) (a2 : a ≤ 1099511627776) (hm : MaySums l b (a / sl) sn f) (hf : SumsAt w sa sn f) (t1 : 0 ≤ t) (t2 : t ≤ 1099511627776) (hle : t < a) :
    Calls Try.prog 16 #[.agg #[.int .i64 k, .int .i64 l, .int .i64 v, .int .i64 b], .agg #[.int .i64 a, .int .i64 0, .slice sa sn sc, .slice ha 0 hc], .int .i64 t] w fun e w' => e = .returned (.int .i64 (cntV b (a / sl) (a / sl) sn f)) ∧ Below w.heap.size w w' := by
  have MK := Lib.hid (fun u (hu : Below w.heap.size w u) => rMay_yes k l v b sl a sa ha sn sc hc f u h a1 a2 hm (hf.below hu))
  have TK := Lib.hid (fun u => rTime_yes t u t1 t2)
  obtain ⟨l1, l2, v1, v2, b1, b2, s1, s2, _⟩ := h.bd
  have LV := Lib.hid (fun u (hu : Below w.heap.size w u) => counts_any k l v b sl a 0 a sa ha sn sc 0 hc f u h a1 a2 (by omega) (by omega) hm.len (hf.below hu) (hm.bd l2))
  have HP := Lib.hid (PC.made w k l v b a 0 (.slice sa sn sc) (.slice ha 0 hc) 23 27)
  clear h hm hf
  generalize (cntV b (a / sl) (a / sl) sn f) = RES at *
  go_enter Try.func16, Try.ntmps16
  go_wp2_with fail
  refine (MK.out _ HP.out.be).mono ?_; rintro e w1 ⟨rfl, hb⟩
  have H1 := Lib.hid (HP.out.step hb)
  clear hb HP MK
  obtain ⟨z0, z1, z2, z3, z4, z5, z6, z7⟩ := H1.out.eight
  go_wp2_with fail
  refine (TK.out _).mono ?_; rintro e w' ⟨rfl, rfl⟩
  go_wp2_with fail
  refine (LV.out _ H1.out.be).mono ?_; rintro e w2 ⟨rfl, hb⟩
  have H2 := Lib.hid (H1.out.step hb)
  clear hb
  go_wp2_with fail
  go_ret
  exact ⟨rfl, H2.out.be⟩

set_option maxRecDepth 100000 in
set_option maxHeartbeats 1000000 in
theorem rTotal_hi (k l v b sl a t : Int) (sa ha : Option Addr) (sn sc hc : Nat) (f : Nat → Int) (w : World) (h : RP k l v b sl) (a1 : 0 ≤ a) (a2 : a ≤ 1099511627776) (hm : MaySums l b (a / sl) sn f) (hf : SumsAt w sa sn f) (t1 : 0 ≤ t) (t2 : t ≤ 1099511627776) (hle : a ≤ t) :
    Calls Try.prog 16 #[.agg #[.int .i64 k, .int .i64 l, .int .i64 v, .int .i64 b], .agg #[.int .i64 a, .int .i64 0, .slice sa sn sc, .slice ha 0 hc], .int .i64 t] w fun e w' => e = .returned (.int .i64 (cntV b (a / sl) (t / sl) sn f)) ∧ Below w.heap.size w w' := by
  have MK := Lib.hid (fun u (hu : Below w.heap.size w u) => rMay_yes k l v b sl a sa ha sn sc hc f u h a1 a2 hm (hf.below hu))
  have TK := Lib.hid (fun u => rTime_yes t u t1 t2)
  obtain ⟨l1, l2, v1, v2, b1, b2, s1, s2, _⟩ := h.bd
  have LV := Lib.hid (fun u (hu : Below w.heap.size w u) => counts_any k l v b sl a 0 t sa ha sn sc 0 hc f u h a1 a2 (by omega) (by omega) hm.len (hf.below hu) (hm.bd l2))
  have HP := Lib.hid (PC.made w k l v b a 0 (.slice sa sn sc) (.slice ha 0 hc) 23 27)
  clear h hm hf
  generalize (cntV b (a / sl) (t / sl) sn f) = RES at *
  go_enter Try.func16, Try.ntmps16
  go_wp2_with fail
  refine (MK.out _ HP.out.be).mono ?_; rintro e w1 ⟨rfl, hb⟩
  have H1 := Lib.hid (HP.out.step hb)
  clear hb HP MK
  obtain ⟨z0, z1, z2, z3, z4, z5, z6, z7⟩ := H1.out.eight
  go_wp2_with fail
  refine (TK.out _).mono ?_; rintro e w' ⟨rfl, rfl⟩
  go_wp2_with fail
  refine (LV.out _ H1.out.be).mono ?_; rintro e w2 ⟨rfl, hb⟩
  have H2 := Lib.hid (H1.out.step hb)
  clear hb
  go_wp2_with fail
  go_ret
  exact ⟨rfl, H2.out.be⟩
theorem rTotal_yes (k l v b sl a t : Int) (sa ha : Option Addr) (sn sc hc : Nat) (f : Nat → Int) (w : World) (h : RP k l v b sl) (a1 : 0 ≤ a) (a2 : a ≤ 1099511627776) (hm : MaySums l b (a / sl) sn f) (hf : SumsAt w sa sn f) (t1 : 0 ≤ t) (t2 : t ≤ 1099511627776) :
    Calls Try.prog 16 #[.agg #[.int .i64 k, .int .i64 l, .int .i64 v, .int .i64 b], .agg #[.int .i64 a, .int .i64 0, .slice sa sn sc, .slice ha 0 hc], .int .i64 t] w fun e w' => e = .returned (.int .i64 (cntV b (a / sl) (tmax t a / sl) sn f)) ∧ Below w.heap.size w w' := by
  obtain ⟨l1, l2, v1, v2, b1, b2, s1, s2, _⟩ := h.bd
  obtain ⟨d0, d1⟩ := div_bd a1 s1
  by_cases hle : t < a
  · have e : tmax t a = a := by unfold tmax; split <;> omega
    rw [e]
    exact rTotal_lo k l v b sl a t sa ha sn sc hc f w h a1 a2 hm hf t1 t2 hle
  · have e : tmax t a = t := by unfold tmax; split <;> omega
    rw [e]
    exact rTotal_hi k l v b sl a t sa ha sn sc hc f w h a1 a2 hm hf t1 t2 (by omega)
end Go.Proofs.Ytbmjpfcnagodaaa
