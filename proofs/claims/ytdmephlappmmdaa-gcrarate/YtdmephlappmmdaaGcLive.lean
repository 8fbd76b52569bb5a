/- What the statements' own live tells. WRITTEN BY gen_gcLive.py. -/
import Derived.Test.YtdmephlappmmdaaGc6
namespace Go.Proofs.Ytdmephlappmmdaa
open Go.ChangeShapes Go.WideShapes Go.ChangeAt Go.RowKit
set_option linter.unusedVariables false

theorem calls_eqB {f : Nat} {args : Array Value} {w : World} {a b : Value} (h : Calls Try.prog f args w fun e w' => e = .returned a ∧ Below w.heap.size w w') (e : a = b) : Calls Try.prog f args w fun e w' => e = .returned b ∧ Below w.heap.size w w' := by subst e; exact h
instance (k l v b a n t m : Int) (sn hn : Nat) : Decidable (MayA k l v b a n t m sn hn) := by unfold MayA; infer_instance
theorem lv0 (w : World) : Calls Try.prog 10 #[.agg #[.int .i64 1, .int .i64 2, .int .i64 10, .int .i64 0], .agg #[.int .i64 0, .int .i64 0, .slice none 0 0, .slice none 0 0], .int .i64 100, .int .i64 2] w fun e w' => e = .returned (.tuple #[.agg #[.int .i64 100, .int .i64 20, .slice none 0 0, .slice none 0 0], .agg #[.bool true, .int .i64 0, .int .i64 0, .int .i64 10]]) ∧ Below w.heap.size w w' :=
  calls_eqB (Ask_yes 1 2 10 0 0 0 100 2 none none 0 0 0 0 w (by decide)) (by kernel_rfl)
theorem lv1 (w : World) : Calls Try.prog 10 #[.agg #[.int .i64 1, .int .i64 2, .int .i64 10, .int .i64 0], .agg #[.int .i64 100, .int .i64 20, .slice none 0 0, .slice none 0 0], .int .i64 101, .int .i64 1] w fun e w' => e = .returned (.tuple #[.agg #[.int .i64 101, .int .i64 18, .slice none 0 0, .slice none 0 0], .agg #[.bool false, .int .i64 0, .int .i64 4, .int .i64 9]]) ∧ Below w.heap.size w w' :=
  calls_eqB (Ask_yes 1 2 10 0 100 20 101 1 none none 0 0 0 0 w (by decide)) (by kernel_rfl)
theorem lv2 (w : World) : Calls Try.prog 10 #[.agg #[.int .i64 1, .int .i64 2, .int .i64 10, .int .i64 0], .agg #[.int .i64 101, .int .i64 18, .slice none 0 0, .slice none 0 0], .int .i64 105, .int .i64 1] w fun e w' => e = .returned (.tuple #[.agg #[.int .i64 105, .int .i64 20, .slice none 0 0, .slice none 0 0], .agg #[.bool true, .int .i64 0, .int .i64 0, .int .i64 10]]) ∧ Below w.heap.size w w' :=
  calls_eqB (Ask_yes 1 2 10 0 101 18 105 1 none none 0 0 0 0 w (by decide)) (by kernel_rfl)
theorem lv3 (w : World) : Calls Try.prog 10 #[.agg #[.int .i64 1, .int .i64 2, .int .i64 10, .int .i64 0], .agg #[.int .i64 105, .int .i64 20, .slice none 0 0, .slice none 0 0], .int .i64 105, .int .i64 3] w fun e w' => e = .returned (.tuple #[.agg #[.int .i64 105, .int .i64 20, .slice none 0 0, .slice none 0 0], .agg #[.bool false, .int .i64 0, .int .i64 2199023255552, .int .i64 10]]) ∧ Below w.heap.size w w' :=
  calls_eqB (Ask_yes 1 2 10 0 105 20 105 3 none none 0 0 0 0 w (by decide)) (by kernel_rfl)
theorem lv4 (w : World) : Calls Try.prog 10 #[.agg #[.int .i64 0, .int .i64 0, .int .i64 0, .int .i64 0], .agg #[.int .i64 105, .int .i64 20, .slice none 0 0, .slice none 0 0], .int .i64 105, .int .i64 1] w fun e w' => e = .returned (.tuple #[.agg #[.int .i64 105, .int .i64 20, .slice none 0 0, .slice none 0 0], .agg #[.bool false, .int .i64 0, .int .i64 0, .int .i64 0]]) ∧ Below w.heap.size w w' :=
  Ask_no 0 0 0 0 105 20 105 1 none none 0 0 0 0 w (by decide)
theorem lvL (w : World) : Calls Try.prog 15 #[.agg #[.int .i64 1, .int .i64 2, .int .i64 10, .int .i64 0], .agg #[.int .i64 100, .int .i64 20, .slice none 0 0, .slice none 0 0], .int .i64 104] w fun e w' => e = .returned (.int .i64 12) ∧ Below w.heap.size w w' := calls_eqB (Level_yes 1 2 10 0 100 20 104 none none 0 0 0 0 w (by decide) (by decide) (by decide)) (by kernel_rfl)
theorem lvE (w : World) : Calls Try.prog 17 #[.agg #[.int .i64 1, .int .i64 2, .int .i64 10, .int .i64 0], .agg #[.int .i64 100, .int .i64 20, .slice none 0 0, .slice none 0 0]] w fun e w' => e = .returned (.int .i64 110) ∧ Below w.heap.size w w' := calls_eqB (Ends_yes 1 2 10 0 100 20 none none 0 0 0 0 w (by decide)) (by kernel_rfl)
theorem lvM (w : World) : Calls Try.prog 13 #[.agg #[.int .i64 1, .int .i64 2, .int .i64 10, .int .i64 0], .agg #[.int .i64 100, .int .i64 20, .slice none 0 0, .slice none 0 0]] w fun e w' => e = .returned (.bool true) ∧ Below w.heap.size w w' := May_yes 1 2 10 0 100 20 none none 0 0 0 0 w (by decide)
theorem lvN (w : World) : Calls Try.prog 13 #[.agg #[.int .i64 1, .int .i64 2, .int .i64 10, .int .i64 0], .agg #[.int .i64 0, .int .i64 21, .slice none 0 0, .slice none 0 0]] w fun e w' => e = .returned (.bool false) ∧ Below w.heap.size w w' := May_no 1 2 10 0 0 21 none none 0 0 0 0 w (by decide)

/-- A block's four cells. -/
theorem Has.four {w : World} {g : Nat} {t : TypeId} {a b c d : Value} (h : Has w g t [a, b, c, d]) : w.cell? ⟨g, 0, none⟩ = some a ∧ w.cell? ⟨g, 1, none⟩ = some b ∧ w.cell? ⟨g, 2, none⟩ = some c ∧ w.cell? ⟨g, 3, none⟩ = some d := ⟨h.cell 0, h.cell 1, h.cell 2, h.cell 3⟩
theorem Has.step {w w' : World} {g : Nat} {t : TypeId} {l : List Value} (h : Has w g t l) (hb : Below w.heap.size w w') : Has w' g t l := h.below hb h.lt
theorem Below.two {w0 w : World} (h : Below w0.heap.size w0 w) (a b : Obj) : Below w0.heap.size w0 ((w.alloc a).alloc b) := (h.alloc h.size a).alloc (by have := h.size; simp; omega) b
theorem made2 (w : World) (t t' : TypeId) (l : List Value) (o : Obj) : Has ((w.alloc o).alloc (.cells l.toArray t)) (w.heap.size + 1) t l := by
  have := Has.made (w.alloc o) t l
  simpa using this
theorem made1 (w : World) (t : TypeId) (l : List Value) (o : Obj) : Has ((w.alloc (.cells l.toArray t)).alloc o) w.heap.size t l := (Has.made w t l).alloc o
set_option maxRecDepth 100000 in
set_option maxHeartbeats 4000000 in
theorem live_any (w : World) : Calls Try.prog 9 #[] w fun e w' => e = .returned (.bool true) ∧ Below w.heap.size w w' := by
  have p0 := Lib.hid (Has.made w 23 [.int .i64 1, .int .i64 2, .int .i64 10, .int .i64 0])
  have B0 := Lib.hid ((Below.refl w.heap.size w).alloc (Nat.le_refl _) (.cells #[.int .i64 1, .int .i64 2, .int .i64 10, .int .i64 0] 23))
  go_enter Try.func9, Try.ntmps9
  obtain ⟨kp0, kp1, kp2, kp3⟩ := p0.out.four
  go_wp2_with fail
  refine (lv0 _).mono ?_; rintro e w1 ⟨rfl, hb⟩
  clear kp0 kp1 kp2 kp3
  have p1 := Lib.hid (((p0.out.step hb).alloc (.cells #[.int .i64 100, .int .i64 20, .slice none 0 0, .slice none 0 0] 27)).alloc (.cells #[.bool true, .int .i64 0, .int .i64 0, .int .i64 10] 32))
  have B1 := Lib.hid (Below.two (B0.out.trans (hb.mono B0.out.size)) (.cells #[.int .i64 100, .int .i64 20, .slice none 0 0, .slice none 0 0] 27) (.cells #[.bool true, .int .i64 0, .int .i64 0, .int .i64 10] 32))
  have c1 := Lib.hid (made1 w1 27 [.int .i64 100, .int .i64 20, .slice none 0 0, .slice none 0 0] (.cells #[.bool true, .int .i64 0, .int .i64 0, .int .i64 10] 32))
  have u1 := Lib.hid (made2 w1 32 27 [.bool true, .int .i64 0, .int .i64 0, .int .i64 10] (.cells #[.int .i64 100, .int .i64 20, .slice none 0 0, .slice none 0 0] 27))
  clear hb p0 B0
  obtain ⟨kp0, kp1, kp2, kp3⟩ := p1.out.four
  obtain ⟨kc0, kc1, kc2, kc3⟩ := c1.out.four
  go_wp2_with fail
  refine (lv1 _).mono ?_; rintro e w2 ⟨rfl, hb⟩
  clear kp0 kp1 kp2 kp3 kc0 kc1 kc2 kc3
  have p2 := Lib.hid (((p1.out.step hb).alloc (.cells #[.int .i64 101, .int .i64 18, .slice none 0 0, .slice none 0 0] 27)).alloc (.cells #[.bool false, .int .i64 0, .int .i64 4, .int .i64 9] 32))
  have c2 := Lib.hid (((c1.out.step hb).alloc (.cells #[.int .i64 101, .int .i64 18, .slice none 0 0, .slice none 0 0] 27)).alloc (.cells #[.bool false, .int .i64 0, .int .i64 4, .int .i64 9] 32))
  have u2 := Lib.hid (((u1.out.step hb).alloc (.cells #[.int .i64 101, .int .i64 18, .slice none 0 0, .slice none 0 0] 27)).alloc (.cells #[.bool false, .int .i64 0, .int .i64 4, .int .i64 9] 32))
  have B2 := Lib.hid (Below.two (B1.out.trans (hb.mono B1.out.size)) (.cells #[.int .i64 101, .int .i64 18, .slice none 0 0, .slice none 0 0] 27) (.cells #[.bool false, .int .i64 0, .int .i64 4, .int .i64 9] 32))
  have d2 := Lib.hid (made1 w2 27 [.int .i64 101, .int .i64 18, .slice none 0 0, .slice none 0 0] (.cells #[.bool false, .int .i64 0, .int .i64 4, .int .i64 9] 32))
  have v2 := Lib.hid (made2 w2 32 27 [.bool false, .int .i64 0, .int .i64 4, .int .i64 9] (.cells #[.int .i64 101, .int .i64 18, .slice none 0 0, .slice none 0 0] 27))
  clear hb p1 c1 u1 B1
  obtain ⟨kp0, kp1, kp2, kp3⟩ := p2.out.four
  obtain ⟨kd0, kd1, kd2, kd3⟩ := d2.out.four
  go_wp2_with fail
  refine (lv2 _).mono ?_; rintro e w3 ⟨rfl, hb⟩
  clear kp0 kp1 kp2 kp3 kd0 kd1 kd2 kd3
  have p3 := Lib.hid (((p2.out.step hb).alloc (.cells #[.int .i64 105, .int .i64 20, .slice none 0 0, .slice none 0 0] 27)).alloc (.cells #[.bool true, .int .i64 0, .int .i64 0, .int .i64 10] 32))
  have c3 := Lib.hid (((c2.out.step hb).alloc (.cells #[.int .i64 105, .int .i64 20, .slice none 0 0, .slice none 0 0] 27)).alloc (.cells #[.bool true, .int .i64 0, .int .i64 0, .int .i64 10] 32))
  have u3 := Lib.hid (((u2.out.step hb).alloc (.cells #[.int .i64 105, .int .i64 20, .slice none 0 0, .slice none 0 0] 27)).alloc (.cells #[.bool true, .int .i64 0, .int .i64 0, .int .i64 10] 32))
  have d3 := Lib.hid (((d2.out.step hb).alloc (.cells #[.int .i64 105, .int .i64 20, .slice none 0 0, .slice none 0 0] 27)).alloc (.cells #[.bool true, .int .i64 0, .int .i64 0, .int .i64 10] 32))
  have v3 := Lib.hid (((v2.out.step hb).alloc (.cells #[.int .i64 105, .int .i64 20, .slice none 0 0, .slice none 0 0] 27)).alloc (.cells #[.bool true, .int .i64 0, .int .i64 0, .int .i64 10] 32))
  have B3 := Lib.hid (Below.two (B2.out.trans (hb.mono B2.out.size)) (.cells #[.int .i64 105, .int .i64 20, .slice none 0 0, .slice none 0 0] 27) (.cells #[.bool true, .int .i64 0, .int .i64 0, .int .i64 10] 32))
  have e3 := Lib.hid (made1 w3 27 [.int .i64 105, .int .i64 20, .slice none 0 0, .slice none 0 0] (.cells #[.bool true, .int .i64 0, .int .i64 0, .int .i64 10] 32))
  have x3 := Lib.hid (made2 w3 32 27 [.bool true, .int .i64 0, .int .i64 0, .int .i64 10] (.cells #[.int .i64 105, .int .i64 20, .slice none 0 0, .slice none 0 0] 27))
  clear hb p2 c2 u2 d2 v2 B2
  obtain ⟨kp0, kp1, kp2, kp3⟩ := p3.out.four
  obtain ⟨ke0, ke1, ke2, ke3⟩ := e3.out.four
  go_wp2_with fail
  refine (lv3 _).mono ?_; rintro e w4 ⟨rfl, hb⟩
  clear kp0 kp1 kp2 kp3 ke0 ke1 ke2 ke3
  have p4 := Lib.hid (((p3.out.step hb).alloc (.cells #[.int .i64 105, .int .i64 20, .slice none 0 0, .slice none 0 0] 27)).alloc (.cells #[.bool false, .int .i64 0, .int .i64 2199023255552, .int .i64 10] 32))
  have c4 := Lib.hid (((c3.out.step hb).alloc (.cells #[.int .i64 105, .int .i64 20, .slice none 0 0, .slice none 0 0] 27)).alloc (.cells #[.bool false, .int .i64 0, .int .i64 2199023255552, .int .i64 10] 32))
  have u4 := Lib.hid (((u3.out.step hb).alloc (.cells #[.int .i64 105, .int .i64 20, .slice none 0 0, .slice none 0 0] 27)).alloc (.cells #[.bool false, .int .i64 0, .int .i64 2199023255552, .int .i64 10] 32))
  have d4 := Lib.hid (((d3.out.step hb).alloc (.cells #[.int .i64 105, .int .i64 20, .slice none 0 0, .slice none 0 0] 27)).alloc (.cells #[.bool false, .int .i64 0, .int .i64 2199023255552, .int .i64 10] 32))
  have v4 := Lib.hid (((v3.out.step hb).alloc (.cells #[.int .i64 105, .int .i64 20, .slice none 0 0, .slice none 0 0] 27)).alloc (.cells #[.bool false, .int .i64 0, .int .i64 2199023255552, .int .i64 10] 32))
  have e4 := Lib.hid (((e3.out.step hb).alloc (.cells #[.int .i64 105, .int .i64 20, .slice none 0 0, .slice none 0 0] 27)).alloc (.cells #[.bool false, .int .i64 0, .int .i64 2199023255552, .int .i64 10] 32))
  have x4 := Lib.hid (((x3.out.step hb).alloc (.cells #[.int .i64 105, .int .i64 20, .slice none 0 0, .slice none 0 0] 27)).alloc (.cells #[.bool false, .int .i64 0, .int .i64 2199023255552, .int .i64 10] 32))
  have B4 := Lib.hid (Below.two (B3.out.trans (hb.mono B3.out.size)) (.cells #[.int .i64 105, .int .i64 20, .slice none 0 0, .slice none 0 0] 27) (.cells #[.bool false, .int .i64 0, .int .i64 2199023255552, .int .i64 10] 32))
  have f4 := Lib.hid (made1 w4 27 [.int .i64 105, .int .i64 20, .slice none 0 0, .slice none 0 0] (.cells #[.bool false, .int .i64 0, .int .i64 2199023255552, .int .i64 10] 32))
  have z4 := Lib.hid (made2 w4 32 27 [.bool false, .int .i64 0, .int .i64 2199023255552, .int .i64 10] (.cells #[.int .i64 105, .int .i64 20, .slice none 0 0, .slice none 0 0] 27))
  clear hb p3 c3 u3 d3 v3 e3 x3 B3
  obtain ⟨ke0, ke1, ke2, ke3⟩ := e4.out.four
  go_wp2_with fail
  refine (lv4 _).mono ?_; rintro e w5 ⟨rfl, hb⟩
  clear ke0 ke1 ke2 ke3
  have p5 := Lib.hid (((p4.out.step hb).alloc (.cells #[.int .i64 105, .int .i64 20, .slice none 0 0, .slice none 0 0] 27)).alloc (.cells #[.bool false, .int .i64 0, .int .i64 0, .int .i64 0] 32))
  have c5 := Lib.hid (((c4.out.step hb).alloc (.cells #[.int .i64 105, .int .i64 20, .slice none 0 0, .slice none 0 0] 27)).alloc (.cells #[.bool false, .int .i64 0, .int .i64 0, .int .i64 0] 32))
  have u5 := Lib.hid (((u4.out.step hb).alloc (.cells #[.int .i64 105, .int .i64 20, .slice none 0 0, .slice none 0 0] 27)).alloc (.cells #[.bool false, .int .i64 0, .int .i64 0, .int .i64 0] 32))
  have d5 := Lib.hid (((d4.out.step hb).alloc (.cells #[.int .i64 105, .int .i64 20, .slice none 0 0, .slice none 0 0] 27)).alloc (.cells #[.bool false, .int .i64 0, .int .i64 0, .int .i64 0] 32))
  have v5 := Lib.hid (((v4.out.step hb).alloc (.cells #[.int .i64 105, .int .i64 20, .slice none 0 0, .slice none 0 0] 27)).alloc (.cells #[.bool false, .int .i64 0, .int .i64 0, .int .i64 0] 32))
  have e5 := Lib.hid (((e4.out.step hb).alloc (.cells #[.int .i64 105, .int .i64 20, .slice none 0 0, .slice none 0 0] 27)).alloc (.cells #[.bool false, .int .i64 0, .int .i64 0, .int .i64 0] 32))
  have x5 := Lib.hid (((x4.out.step hb).alloc (.cells #[.int .i64 105, .int .i64 20, .slice none 0 0, .slice none 0 0] 27)).alloc (.cells #[.bool false, .int .i64 0, .int .i64 0, .int .i64 0] 32))
  have f5 := Lib.hid (((f4.out.step hb).alloc (.cells #[.int .i64 105, .int .i64 20, .slice none 0 0, .slice none 0 0] 27)).alloc (.cells #[.bool false, .int .i64 0, .int .i64 0, .int .i64 0] 32))
  have z5 := Lib.hid (((z4.out.step hb).alloc (.cells #[.int .i64 105, .int .i64 20, .slice none 0 0, .slice none 0 0] 27)).alloc (.cells #[.bool false, .int .i64 0, .int .i64 0, .int .i64 0] 32))
  have B5 := Lib.hid (Below.two (B4.out.trans (hb.mono B4.out.size)) (.cells #[.int .i64 105, .int .i64 20, .slice none 0 0, .slice none 0 0] 27) (.cells #[.bool false, .int .i64 0, .int .i64 0, .int .i64 0] 32))
  have y5 := Lib.hid (made1 w5 27 [.int .i64 105, .int .i64 20, .slice none 0 0, .slice none 0 0] (.cells #[.bool false, .int .i64 0, .int .i64 0, .int .i64 0] 32))
  have q5 := Lib.hid (made2 w5 32 27 [.bool false, .int .i64 0, .int .i64 0, .int .i64 0] (.cells #[.int .i64 105, .int .i64 20, .slice none 0 0, .slice none 0 0] 27))
  clear hb p4 c4 u4 d4 v4 e4 x4 f4 z4 B4
  obtain ⟨kp0, kp1, kp2, kp3⟩ := p5.out.four
  obtain ⟨kc0, kc1, kc2, kc3⟩ := c5.out.four
  obtain ⟨ku0, ku1, ku2, ku3⟩ := u5.out.four
  obtain ⟨kd0, kd1, kd2, kd3⟩ := d5.out.four
  obtain ⟨kv0, kv1, kv2, kv3⟩ := v5.out.four
  obtain ⟨ke0, ke1, ke2, ke3⟩ := e5.out.four
  obtain ⟨kx0, kx1, kx2, kx3⟩ := x5.out.four
  obtain ⟨kf0, kf1, kf2, kf3⟩ := f5.out.four
  obtain ⟨kz0, kz1, kz2, kz3⟩ := z5.out.four
  obtain ⟨ky0, ky1, ky2, ky3⟩ := y5.out.four
  obtain ⟨kq0, kq1, kq2, kq3⟩ := q5.out.four
  go_wp2_with fail
  refine (lvL _).mono ?_; rintro e w6 ⟨rfl, hb⟩
  clear kp0 kp1 kp2 kp3 kc0 kc1 kc2 kc3 ku0 ku1 ku2 ku3 kd0 kd1 kd2 kd3 kv0 kv1 kv2 kv3 ke0 ke1 ke2 ke3 kx0 kx1 kx2 kx3 kf0 kf1 kf2 kf3 kz0 kz1 kz2 kz3 ky0 ky1 ky2 ky3 kq0 kq1 kq2 kq3
  have p6 := Lib.hid (p5.out.step hb)
  have c6 := Lib.hid (c5.out.step hb)
  have u6 := Lib.hid (u5.out.step hb)
  have d6 := Lib.hid (d5.out.step hb)
  have v6 := Lib.hid (v5.out.step hb)
  have e6 := Lib.hid (e5.out.step hb)
  have x6 := Lib.hid (x5.out.step hb)
  have f6 := Lib.hid (f5.out.step hb)
  have z6 := Lib.hid (z5.out.step hb)
  have y6 := Lib.hid (y5.out.step hb)
  have q6 := Lib.hid (q5.out.step hb)
  have B6 := Lib.hid (B5.out.trans (hb.mono B5.out.size))
  clear hb p5 c5 u5 d5 v5 e5 x5 f5 z5 y5 q5 B5
  obtain ⟨kp0, kp1, kp2, kp3⟩ := p6.out.four
  obtain ⟨kc0, kc1, kc2, kc3⟩ := c6.out.four
  obtain ⟨ku0, ku1, ku2, ku3⟩ := u6.out.four
  obtain ⟨kd0, kd1, kd2, kd3⟩ := d6.out.four
  obtain ⟨kv0, kv1, kv2, kv3⟩ := v6.out.four
  obtain ⟨ke0, ke1, ke2, ke3⟩ := e6.out.four
  obtain ⟨kx0, kx1, kx2, kx3⟩ := x6.out.four
  obtain ⟨kf0, kf1, kf2, kf3⟩ := f6.out.four
  obtain ⟨kz0, kz1, kz2, kz3⟩ := z6.out.four
  obtain ⟨ky0, ky1, ky2, ky3⟩ := y6.out.four
  obtain ⟨kq0, kq1, kq2, kq3⟩ := q6.out.four
  go_wp2_with fail
  refine (lvE _).mono ?_; rintro e w7 ⟨rfl, hb⟩
  clear kp0 kp1 kp2 kp3 kc0 kc1 kc2 kc3 ku0 ku1 ku2 ku3 kd0 kd1 kd2 kd3 kv0 kv1 kv2 kv3 ke0 ke1 ke2 ke3 kx0 kx1 kx2 kx3 kf0 kf1 kf2 kf3 kz0 kz1 kz2 kz3 ky0 ky1 ky2 ky3 kq0 kq1 kq2 kq3
  have p7 := Lib.hid (p6.out.step hb)
  have c7 := Lib.hid (c6.out.step hb)
  have u7 := Lib.hid (u6.out.step hb)
  have d7 := Lib.hid (d6.out.step hb)
  have v7 := Lib.hid (v6.out.step hb)
  have e7 := Lib.hid (e6.out.step hb)
  have x7 := Lib.hid (x6.out.step hb)
  have f7 := Lib.hid (f6.out.step hb)
  have z7 := Lib.hid (z6.out.step hb)
  have y7 := Lib.hid (y6.out.step hb)
  have q7 := Lib.hid (q6.out.step hb)
  have B7 := Lib.hid (B6.out.trans (hb.mono B6.out.size))
  clear hb p6 c6 u6 d6 v6 e6 x6 f6 z6 y6 q6 B6
  obtain ⟨kp0, kp1, kp2, kp3⟩ := p7.out.four
  obtain ⟨kc0, kc1, kc2, kc3⟩ := c7.out.four
  obtain ⟨ku0, ku1, ku2, ku3⟩ := u7.out.four
  obtain ⟨kd0, kd1, kd2, kd3⟩ := d7.out.four
  obtain ⟨kv0, kv1, kv2, kv3⟩ := v7.out.four
  obtain ⟨ke0, ke1, ke2, ke3⟩ := e7.out.four
  obtain ⟨kx0, kx1, kx2, kx3⟩ := x7.out.four
  obtain ⟨kf0, kf1, kf2, kf3⟩ := f7.out.four
  obtain ⟨kz0, kz1, kz2, kz3⟩ := z7.out.four
  obtain ⟨ky0, ky1, ky2, ky3⟩ := y7.out.four
  obtain ⟨kq0, kq1, kq2, kq3⟩ := q7.out.four
  go_wp2_with fail
  refine (lvM _).mono ?_; rintro e w8 ⟨rfl, hb⟩
  clear kp0 kp1 kp2 kp3 kc0 kc1 kc2 kc3 ku0 ku1 ku2 ku3 kd0 kd1 kd2 kd3 kv0 kv1 kv2 kv3 ke0 ke1 ke2 ke3 kx0 kx1 kx2 kx3 kf0 kf1 kf2 kf3 kz0 kz1 kz2 kz3 ky0 ky1 ky2 ky3 kq0 kq1 kq2 kq3
  have p8 := Lib.hid (p7.out.step hb)
  have c8 := Lib.hid (c7.out.step hb)
  have u8 := Lib.hid (u7.out.step hb)
  have d8 := Lib.hid (d7.out.step hb)
  have v8 := Lib.hid (v7.out.step hb)
  have e8 := Lib.hid (e7.out.step hb)
  have x8 := Lib.hid (x7.out.step hb)
  have f8 := Lib.hid (f7.out.step hb)
  have z8 := Lib.hid (z7.out.step hb)
  have y8 := Lib.hid (y7.out.step hb)
  have q8 := Lib.hid (q7.out.step hb)
  have B8 := Lib.hid (B7.out.trans (hb.mono B7.out.size))
  clear hb p7 c7 u7 d7 v7 e7 x7 f7 z7 y7 q7 B7
  obtain ⟨kp0, kp1, kp2, kp3⟩ := p8.out.four
  go_wp2_with fail
  refine (lvN _).mono ?_; rintro e w9 ⟨rfl, hb⟩
  go_wp2_with fail
  go_ret
  exact ⟨rfl, B8.out.trans (hb.mono B8.out.size)⟩
end Go.Proofs.Ytdmephlappmmdaa
