/- The contracts of policy.Encode and of the document's own. -/
import Derived.Test.YtkdmebgoobenkaaDoorPol3
import Derived.LoopN
import Derived.Deep.RegionHeld3
-- prune
namespace Go.Proofs.YtkdmebgoobenkaaDoor
open Go.ChangeShapes Go.WideShapes Go.ChangeAt Go.RowKit
set_option linter.unusedVariables false

theorem ret2s {a b : ByteArray} {v : Value} (h : a = b) : Ending.returned (.tuple #[.string a, v]) = .returned (.tuple #[.string b, v]) := by rw [h]
theorem Wide_go (n : Int) (k : Nat) (w : World) (h0 : 0 ≤ n) (h1 : n < 4294967296) (hk : k ≤ 8) :
    Calls Tryd.prog 21 #[.int .u64 n, .int .i64 k] w fun e w' => e = .returned (.string (wB n k)) ∧ Below w.heap.size w w' := Wide_yes n k w (by unfold U64; omega) hk
theorem rWide_go (n : Int) (k : Nat) (w : World) (h0 : 0 ≤ n) (h1 : n < 4294967296) (hk : k ≤ 8) :
    Calls Tryd.prog 22 #[.int .u64 n, .int .i64 k] w fun e w' => e = .returned (.string (wB n k)) ∧ Below w.heap.size w w' := rWide_yes n k w (by unfold U64; omega) hk
theorem PolAt.drew {w0 w : World} {g : Nat} {k l v b : Int} (h : PolAt w0 g k l v b w) : PolAt w0 g k l v b w.drew := ⟨h.d0, h.d1, h.d2, h.d3, h.be.drew, h.sz⟩
theorem rWide_1 (n : Int) (w : World) (h0 : 0 ≤ n) (h1 : n < 4294967296) :
    Calls Tryd.prog 22 #[.int .u64 (IntKind.u64.wrap n), .int .i64 1] w fun e w' => e = .returned (.string (wB n 1)) ∧ Below w.heap.size w w' := by
  rw [wrap_id (by unfold U64; omega)]; exact rWide_go n 1 w h0 h1 (by decide)
theorem rWide_4 (n : Int) (w : World) (h0 : 0 ≤ n) (h1 : n < 4294967296) :
    Calls Tryd.prog 22 #[.int .u64 (IntKind.u64.wrap n), .int .i64 4] w fun e w' => e = .returned (.string (wB n 4)) ∧ Below w.heap.size w w' := by
  rw [wrap_id (by unfold U64; omega)]; exact rWide_go n 4 w h0 h1 (by decide)
theorem at4_0 (a b c d : Int) (u : World) : (Instr.index 38 (.agg #[.int .i64 a, .int .i64 b, .int .i64 c, .int .i64 d]) (.int .i64 0)).run Tryd.prog u = .ok (.int .i64 a) u := by kernel_rfl
theorem at4_1 (a b c d : Int) (u : World) : (Instr.index 38 (.agg #[.int .i64 a, .int .i64 b, .int .i64 c, .int .i64 d]) (.int .i64 1)).run Tryd.prog u = .ok (.int .i64 b) u := by kernel_rfl
theorem at4_2 (a b c d : Int) (u : World) : (Instr.index 38 (.agg #[.int .i64 a, .int .i64 b, .int .i64 c, .int .i64 d]) (.int .i64 2)).run Tryd.prog u = .ok (.int .i64 c) u := by kernel_rfl
theorem at4_3 (a b c d : Int) (u : World) : (Instr.index 38 (.agg #[.int .i64 a, .int .i64 b, .int .i64 c, .int .i64 d]) (.int .i64 3)).run Tryd.prog u = .ok (.int .i64 d) u := by kernel_rfl
theorem encB_eq (k l v b : Int) : (((ByteArray.mk #[] ++ wB k 1) ++ wB l 4) ++ wB v 4) ++ wB b 1 = encB k l v b := by
  unfold encB
  apply ByteArray.ext
  simp

theorem Encode_no (k l v b : Int) (w : World) (h : ¬ MayP k l v b) : Calls Tryd.prog 8 #[.agg #[.int .i64 k, .int .i64 l, .int .i64 v, .int .i64 b]] w fun e w' => e = .returned (.tuple #[.string ⟨#[]⟩, .int .i64 1]) ∧ Below w.heap.size w w' := by
  have H := Lib.hid (fun u => Check_no k l v b u h)
  have hm := Lib.hid (PolAt.made w k l v b 23)
  clear h
  go_enter Tryd.func8, Tryd.ntmps8
  go_wp2_with fail
  refine (H.out _).mono ?_; rintro e w1 ⟨rfl, hb⟩
  have HP := Lib.hid (hm.out.step hb)
  clear hb
  go_wp2
  go_ret2
  exact ⟨rfl, HP.out.be⟩
theorem rEncode_no (k l v b : Int) (w : World) (h : ¬ MayP k l v b) : Calls Tryd.prog 9 #[.agg #[.int .i64 k, .int .i64 l, .int .i64 v, .int .i64 b]] w fun e w' => e = .returned (.tuple #[.string ⟨#[]⟩, .int .i64 1]) ∧ Below w.heap.size w w' := by
  have H := Lib.hid (fun u => rCheck_no k l v b u h)
  have hm := Lib.hid (PolAt.made w k l v b 23)
  clear h
  go_enter Tryd.func9, Tryd.ntmps9
  go_wp2_with fail
  refine (H.out _).mono ?_; rintro e w1 ⟨rfl, hb⟩
  have HP := Lib.hid (hm.out.step hb)
  clear hb
  go_wp2
  go_ret2
  exact ⟨rfl, HP.out.be⟩

set_option maxRecDepth 100000 in
set_option maxHeartbeats 1000000 in
theorem Encode_yes (k l v b : Int) (w : World) (h : MayP k l v b) (ht : TabW w) : Calls Tryd.prog 8 #[.agg #[.int .i64 k, .int .i64 l, .int .i64 v, .int .i64 b]] w fun e w' => e = .returned (.tuple #[.string (encB k l v b), .int .i64 0]) ∧ Below w.heap.size w w' := by
  have H := Lib.hid (fun u => Check_yes k l v b u h)
  have hm := Lib.hid (PolAt.made w k l v b 23)
  obtain ⟨⟨a1, a2⟩, ⟨b1, b2⟩, ⟨c1, c2⟩, ⟨d1, d2⟩⟩ := h.small
  have HT := Lib.hid ht
  have E := Lib.hid (encB_eq k l v b)
  have q1 := Lib.hid (fun u => Wide_go k 1 u a1 (by omega) (by omega))
  have q2 := Lib.hid (fun u => Wide_go l 4 u b1 b2 (by omega))
  have q3 := Lib.hid (fun u => Wide_go v 4 u c1 c2 (by omega))
  have q4 := Lib.hid (fun u => Wide_go b 1 u d1 (by omega) (by omega))
  have s1 : (wB k 1).size ≤ 8 := by rw [wB_size]; omega
  have s2 : (wB l 4).size ≤ 8 := by rw [wB_size]; omega
  have s3 : (wB v 4).size ≤ 8 := by rw [wB_size]; omega
  have s4 : (wB b 1).size ≤ 8 := by rw [wB_size]; omega
  generalize wB k 1 = B1 at *
  generalize wB l 4 = B2 at *
  generalize wB v 4 = B3 at *
  generalize wB b 1 = B4 at *
  have i0 := at4_0 k l v b
  have i1 := at4_1 k l v b
  have i2 := at4_2 k l v b
  have i3 := at4_3 k l v b
  clear h ht
  go_enter Tryd.func8, Tryd.ntmps8
  go_wp2_with fail
  refine (H.out _).mono ?_; rintro e w1 ⟨rfl, hb⟩
  have hp := hm.out.step hb
  have z0 := hp.d0
  have z1 := hp.d1
  have z2 := hp.d2
  have z3 := hp.d3
  have t0 := (HT.out.below hp.be HT.out.sz).t0
  have HB := Lib.hid hp.be
  clear hp hb
  go_wp2_with fail
  refine wp_loop_rounds 5 ?_
  rw [rounds_succ]
  go_wp2_with fail
  refine (q1.out _).mono ?_; rintro e w2 ⟨rfl, hb⟩
  have HB2 := Lib.hid (HB.out.trans (hb.mono HB.out.size))
  have t1 := (HT.out.below HB2.out HT.out.sz).t1
  clear hb t0 z0 z1 z2 z3 HB
  go_wp2_with fail
  rw [rounds_succ]
  go_wp2_with fail
  refine (q2.out _).mono ?_; rintro e w3 ⟨rfl, hb⟩
  have HB3 := Lib.hid (HB2.out.trans (hb.mono HB2.out.size))
  have t2 := (HT.out.below HB3.out HT.out.sz).t2
  clear hb t1 HB2
  go_wp2_with fail
  rw [rounds_succ]
  go_wp2_with fail
  refine (q3.out _).mono ?_; rintro e w4 ⟨rfl, hb⟩
  have HB4 := Lib.hid (HB3.out.trans (hb.mono HB3.out.size))
  have t3 := (HT.out.below HB4.out HT.out.sz).t3
  clear hb t2 HB3
  go_wp2_with fail
  rw [rounds_succ]
  go_wp2_with fail
  refine (q4.out _).mono ?_; rintro e w5 ⟨rfl, hb⟩
  have HB5 := Lib.hid (HB4.out.trans (hb.mono HB4.out.size))
  clear hb t3 HB4
  go_wp2_with fail
  rw [rounds_succ]
  go_wp2_with fail
  go_ret2
  exact ⟨ret2s E.out, HB5.out⟩

set_option maxRecDepth 100000 in
set_option maxHeartbeats 1000000 in
theorem rEncode_yes (k l v b : Int) (w : World) (h : MayP k l v b) : Calls Tryd.prog 9 #[.agg #[.int .i64 k, .int .i64 l, .int .i64 v, .int .i64 b]] w fun e w' => e = .returned (.tuple #[.string (encB k l v b), .int .i64 0]) ∧ Below w.heap.size w w' := by
  have H := Lib.hid (fun u => rCheck_yes k l v b u h)
  have hm := Lib.hid (PolAt.made w k l v b 23)
  obtain ⟨⟨a1, a2⟩, ⟨b1, b2⟩, ⟨c1, c2⟩, ⟨d1, d2⟩⟩ := h.small
  have q1 := Lib.hid (fun u => (show Calls Tryd.prog 22 #[.int .u64 k, .int .i64 1] u fun e w' => e = .returned (.string (wB k 1)) ∧ Below u.heap.size u w' from rWide_go k 1 u a1 (by omega) (by decide)))
  have q2 := Lib.hid (fun u => (show Calls Tryd.prog 22 #[.int .u64 l, .int .i64 4] u fun e w' => e = .returned (.string (wB l 4)) ∧ Below u.heap.size u w' from rWide_go l 4 u b1 b2 (by decide)))
  have q3 := Lib.hid (fun u => (show Calls Tryd.prog 22 #[.int .u64 v, .int .i64 4] u fun e w' => e = .returned (.string (wB v 4)) ∧ Below u.heap.size u w' from rWide_go v 4 u c1 c2 (by decide)))
  have q4 := Lib.hid (fun u => (show Calls Tryd.prog 22 #[.int .u64 b, .int .i64 1] u fun e w' => e = .returned (.string (wB b 1)) ∧ Below u.heap.size u w' from rWide_go b 1 u d1 (by omega) (by decide)))
  have ek : IntKind.u64.wrap k = k := wrap_id (by unfold U64; omega)
  have el : IntKind.u64.wrap l = l := wrap_id (by unfold U64; omega)
  have ev : IntKind.u64.wrap v = v := wrap_id (by unfold U64; omega)
  have eb : IntKind.u64.wrap b = b := wrap_id (by unfold U64; omega)
  have s1 : (wB k 1).size ≤ 8 := by rw [wB_size]; omega
  have s2 : (wB l 4).size ≤ 8 := by rw [wB_size]; omega
  have s3 : (wB v 4).size ≤ 8 := by rw [wB_size]; omega
  have s4 : (wB b 1).size ≤ 8 := by rw [wB_size]; omega
  have E := Lib.hid (show ((wB k 1 ++ wB l 4) ++ wB v 4) ++ wB b 1 = encB k l v b from rfl)
  generalize wB k 1 = B1 at *
  generalize wB l 4 = B2 at *
  generalize wB v 4 = B3 at *
  generalize wB b 1 = B4 at *
  have g1 : ∀ u : World, (Op.stringOp .add B1 B2).run Tryd.prog u = .ok (.string (B1 ++ B2)) u := fun u => run_string_add_sum u B1 B2 (by omega)
  have g2 : ∀ u : World, (Op.stringOp .add (B1 ++ B2) B3).run Tryd.prog u = .ok (.string (B1 ++ B2 ++ B3)) u := fun u => run_string_add_sum u _ B3 (by rw [ByteArray.size_append]; omega)
  have g3 : ∀ u : World, (Op.stringOp .add (B1 ++ B2 ++ B3) B4).run Tryd.prog u = .ok (.string (B1 ++ B2 ++ B3 ++ B4)) u := fun u => run_string_add_sum u _ B4 (by rw [ByteArray.size_append, ByteArray.size_append]; omega)
  clear h s1 s2 s3 s4
  go_enter Tryd.func9, Tryd.ntmps9
  go_wp2_with fail
  refine (H.out _).mono ?_; rintro e w1 ⟨rfl, hb⟩
  have hp := hm.out.step hb
  have HP := Lib.hid hp.drew
  have z0 := hp.d0
  have z1 := hp.d1
  have z2 := hp.d2
  have z3 := hp.d3
  clear hp hb hm H
  go_wp2_with fail
  go_region_held3 (fun w' => w'.cell? ⟨w.heap.size, 0, none⟩ = some (.int .i64 k) ∧ w'.cell? ⟨w.heap.size, 1, none⟩ = some (.int .i64 l) ∧ w'.cell? ⟨w.heap.size, 2, none⟩ = some (.int .i64 v) ∧ w'.cell? ⟨w.heap.size, 3, none⟩ = some (.int .i64 b)) (first | exact ⟨z0, z1, z2, z3⟩ | exact ⟨y0, y1, y2, y3⟩ | exact ⟨x0, x1, x2, x3⟩ | exact ⟨r0, r1, r2, r3⟩ | exact ⟨o0, o1, o2, o3⟩ | go_keep) (first | (go_at_call 22; (with_reducible refine (q1.out _).mono ?_); rintro e wa ⟨rfl, hb1⟩; have hp1 := HP.out.step hb1; have HP1 := Lib.hid hp1; have y0 := hp1.d0; have y1 := hp1.d1; have y2 := hp1.d2; have y3 := hp1.d3; clear hb1 hp1) | (go_at_call 22; (with_reducible refine (q2.out _).mono ?_); rintro e wb ⟨rfl, hb2⟩; have hp2 := HP1.out.step hb2; have HP2 := Lib.hid hp2; have x0 := hp2.d0; have x1 := hp2.d1; have x2 := hp2.d2; have x3 := hp2.d3; clear hb2 hp2) | (go_at_call 22; (with_reducible refine (q3.out _).mono ?_); rintro e wc ⟨rfl, hb3⟩; have hp3 := HP2.out.step hb3; have HP3 := Lib.hid hp3; have r0 := hp3.d0; have r1 := hp3.d1; have r2 := hp3.d2; have r3 := hp3.d3; clear hb3 hp3) | (go_at_call 22; (with_reducible refine (q4.out _).mono ?_); rintro e wd ⟨rfl, hb4⟩; have hp4 := HP3.out.step hb4; have HP4 := Lib.hid hp4; have o0 := hp4.d0; have o1 := hp4.d1; have o2 := hp4.d2; have o3 := hp4.d3; clear hb4 hp4))
  all_goals (go_wp2_with fail; go_ret2; exact ⟨ret2s E.out, HP4.out.be⟩)
end Go.Proofs.YtkdmebgoobenkaaDoor
