/- For all words, every two fields and every two numbers the law BitsApart returns true: two fields that do not touch are set in either order; a field that is set twice has what it was set to last (of at most 20 words, else only the document's examples are asked). The card's tie: the table of math/bits holds what its initialiser lays. -/
import Derived.Test.YtefpgpehncllnaaDoorBitsTab
namespace Go.Proofs.YtefpgpehncllnaaDoor.bitsApart
open Go.ChangeShapes Go.WideShapes Go.ChangeAt Go.RowKit
set_option linter.unusedVariables false

theorem set_comm (ns : List Nat) (p k n q m v : Nat) (h : p + k ≤ q ∨ q + m ≤ p) : setW (setW ns p k n) q m v = setW (setW ns q m v) p k n := by
  refine words_ext (by simp [setW_len]) (setW_all _ _ _ _) (setW_all _ _ _ _) ?_
  intro i hi
  rw [setW_len, setW_len] at hi
  rw [setW_bit _ _ _ _ _ (by rw [setW_len]; exact hi), setW_bit _ _ _ _ _ hi, setW_bit _ _ _ _ _ (by rw [setW_len]; exact hi), setW_bit _ _ _ _ _ hi]
  by_cases h1 : q ≤ i ∧ i < q + m
  · rw [if_pos h1, if_neg (by omega), if_pos h1]
  · rw [if_neg h1, if_neg h1]
theorem set_twice (ns : List Nat) (p k n v : Nat) : setW (setW ns p k n) p k v = setW ns p k v := by
  refine words_ext (by simp [setW_len]) (setW_all _ _ _ _) (setW_all _ _ _ _) ?_
  intro i hi
  rw [setW_len, setW_len] at hi
  rw [setW_bit _ _ _ _ _ (by rw [setW_len]; exact hi), setW_bit _ _ _ _ _ hi, setW_bit _ _ _ _ _ hi]
  by_cases h1 : p ≤ i ∧ i < p + k
  · rw [if_pos h1, if_pos h1]
  · rw [if_neg h1, if_neg h1, if_neg h1]

/-- What Set tells, told in the words of the slice that comes. -/
def Tells (len : Nat) (ns : List Nat) (w : World) (e : Ending) (w' : World) : Prop :=
  ∃ A cap, e = .returned (.tuple #[.slice A len cap, .bool true]) ∧ len ≤ cap ∧ Words w' A len ns ∧ Below w.heap.size w w'
theorem set_tells (A : Option Addr) (len cap : Nat) (ns : List Nat) (p k n : Nat) (w : World) (hl : len ≤ 1000) (hw : Words w A len ns) (hk : k ≤ 64) (hp : p + k ≤ 64 * len) (hn : n < 18446744073709551616) :
    Calls Tryd.prog 13 #[.slice A len cap, .int .i64 p, .int .i64 k, .int .u64 n] w (Tells len (setW ns p k n) w) :=
  (Set_yes A len cap ns p k n w hl hw hk hp hn).mono fun e w' h => by
    obtain ⟨A, c, rfl, hf, hb⟩ := h
    exact ⟨A, c, rfl, hf.1, hf.words, hb⟩

/-- The two arrays that were handed in, in memory. -/
structure Arrs (B : Nat) (w : World) (x0 x1 x2 x3 n m : Int) : Prop where
  lt : B + 1 < w.heap.size
  a0 : w.cell? ⟨B, 0, none⟩ = some (.int .i64 x0)
  a1 : w.cell? ⟨B, 1, none⟩ = some (.int .i64 x1)
  a2 : w.cell? ⟨B, 2, none⟩ = some (.int .i64 x2)
  a3 : w.cell? ⟨B, 3, none⟩ = some (.int .i64 x3)
  b0 : w.cell? ⟨B + 1, 0, none⟩ = some (.int .u64 n)
  b1 : w.cell? ⟨B + 1, 1, none⟩ = some (.int .u64 m)
theorem Arrs.below {B : Nat} {w w' : World} {x0 x1 x2 x3 n m : Int} (h : Arrs B w x0 x1 x2 x3 n m) (hb : Below w.heap.size w w') : Arrs B w' x0 x1 x2 x3 n m :=
  have l1 : B < w.heap.size := by have := h.lt; omega
  ⟨Nat.lt_of_lt_of_le h.lt hb.size, (hb.cell (p := ⟨B, 0, none⟩) l1).trans h.a0, (hb.cell (p := ⟨B, 1, none⟩) l1).trans h.a1, (hb.cell (p := ⟨B, 2, none⟩) l1).trans h.a2, (hb.cell (p := ⟨B, 3, none⟩) l1).trans h.a3,
    (hb.cell (p := ⟨B + 1, 0, none⟩) h.lt).trans h.b0, (hb.cell (p := ⟨B + 1, 1, none⟩) h.lt).trans h.b1⟩

set_option maxRecDepth 100000 in
set_option maxHeartbeats 2000000 in
theorem walk (A : Option Addr) (len cap : Nat) (zs : List Int) (x0 x1 x2 x3 n m : Int) {W : World} (hw : IsInts .u64 W A len cap zs) (w0 : (Lit.int .i64 x0).wf = true) (w1 : (Lit.int .i64 x1).wf = true) (w2 : (Lit.int .i64 x2).wf = true) (w3 : (Lit.int .i64 x3).wf = true) (wn : (Lit.int .u64 n).wf = true) (wm : (Lit.int .u64 m).wf = true) (ht : TabW W) :
    Calls Tryd.prog 9 #[.slice A len cap, .agg ([x0, x1, x2, x3].map (Value.int .i64)).toArray, .agg ([n, m].map (Value.int .u64)).toArray] W fun e w' => e = .returned (.bool true) ∧ Below W.heap.size W w' := by
  obtain ⟨ns, hW, hc, hnil, hlm⟩ := words_of hw
  have hn := wf_u wn
  obtain ⟨n, rfl⟩ := Int.eq_ofNat_of_zero_le hn.1
  have hn2 : n < 18446744073709551616 := by have := hn.2; omega
  have HN := Lib.hid hn2
  have hm := wf_u wm
  obtain ⟨m, rfl⟩ := Int.eq_ofNat_of_zero_le hm.1
  have hm2 : m < 18446744073709551616 := by have := hm.2; omega
  have HM := Lib.hid hm2
  show Calls Tryd.prog 9 #[.slice A len cap, .agg #[.int .i64 x0, .int .i64 x1, .int .i64 x2, .int .i64 x3], .agg #[.int .u64 n, .int .u64 m]] W fun e w' => e = .returned (.bool true) ∧ Below W.heap.size W w'
  have B0 : Hid (Below W.heap.size W ((W.alloc (Obj.cells #[Value.int IntKind.i64 x0, Value.int IntKind.i64 x1, Value.int IntKind.i64 x2, Value.int IntKind.i64 x3] 39)).alloc (Obj.cells #[Value.int IntKind.u64 n, Value.int IntKind.u64 m] 42))) := ((Below.refl _ _).alloc (Nat.le_refl _) _).alloc (by simp) _
  have A0 : Hid (Arrs W.heap.size ((W.alloc (Obj.cells #[Value.int IntKind.i64 x0, Value.int IntKind.i64 x1, Value.int IntKind.i64 x2, Value.int IntKind.i64 x3] 39)).alloc (Obj.cells #[Value.int IntKind.u64 n, Value.int IntKind.u64 m] 42)) x0 x1 x2 x3 n m) :=
    ⟨by simp, by simp, by simp, by simp, by simp, by simp, by simp⟩
  have HT := Lib.hid (ht.below B0.out)
  have HW := Lib.hid (hW.below B0.out)
  have h1 := Lib.hid hW.1
  clear hw ht hW hn wn w0 w1 w2 w3 hlm hnil hn2 hm wm hm2
  by_cases h20 : 20 < len
  · go_enter Tryd.func9, Tryd.ntmps9
    go_wp2_with (first | (go_at_call 10; refine (live_any _ HT.out).mono ?_; rintro e w1 ⟨rfl, hbl⟩))
    go_ret
    exact ⟨rfl, B0.out.trans (hbl.mono B0.out.size)⟩
  · by_cases hin : InField len x0 x1
    · have hin' := hin
      unfold InField at hin'
      obtain ⟨q0, q1, q2, q3⟩ := hin'
      obtain ⟨p, rfl⟩ := Int.eq_ofNat_of_zero_le q0
      obtain ⟨k, rfl⟩ := Int.eq_ofNat_of_zero_le q1
      have q2 : k ≤ 64 := by omega
      have q3 : p + k ≤ 64 * len := by omega
      clear q0 q1 hin
      have S1 := Lib.hid (set_tells A len cap ns p k n _ (by omega) HW.out q2 q3 HN.out)
      go_enter Tryd.func9, Tryd.ntmps9
      go_wp2_with fail
      refine S1.out.mono ?_
      rintro e w1 ⟨A1, c1, rfl, hc1, hw1, hb1⟩
      have B1 : Hid (Below W.heap.size W w1) := B0.out.trans (hb1.mono B0.out.size)
      have HW1 := Lib.hid (HW.out.below hb1)
      have HT1 := Lib.hid (HT.out.below hb1)
      have A1' := Lib.hid (A0.out.below hb1)
      have R1 := Lib.hid hw1
      clear hb1 hw1
      obtain ⟨_, _, _, e2, e3, e4, e5⟩ := A1'.out
      by_cases hin2 : InField len x2 x3
      · have hin' := hin2
        unfold InField at hin'
        obtain ⟨r0, r1, r2, r3⟩ := hin'
        obtain ⟨q, rfl⟩ := Int.eq_ofNat_of_zero_le r0
        obtain ⟨u, rfl⟩ := Int.eq_ofNat_of_zero_le r1
        have r2 : u ≤ 64 := by omega
        have r3 : q + u ≤ 64 * len := by omega
        clear r0 r1 hin2
        have S2 := Lib.hid (set_tells A len cap ns q u m _ (by omega) HW1.out r2 r3 HM.out)
        go_wp2_with fail
        refine S2.out.mono ?_
        rintro e w2 ⟨A2, c2, rfl, hc2, hw2, hb2⟩
        clear e2 e3 e4 e5
        have B2 : Hid (Below W.heap.size W w2) := B1.out.trans (hb2.mono B1.out.size)
        have HW2 := Lib.hid (HW1.out.below hb2)
        have HT2 := Lib.hid (HT1.out.below hb2)
        have A2' := Lib.hid (A1'.out.below hb2)
        have R12 := Lib.hid (R1.out.below hb2)
        have R2 := Lib.hid hw2
        clear hb2 hw2
        obtain ⟨_, e0, e1, e2, e3, e4, e5⟩ := A2'.out
        have S3 := Lib.hid (set_tells A1 len c1 _ q u m _ (by omega) R12.out r2 r3 HM.out)
        go_wp2_with fail
        refine S3.out.mono ?_
        rintro e w3 ⟨A3, c3, rfl, hc3, hw3, hb3⟩
        clear e0 e1 e2 e3 e4 e5
        have B3 : Hid (Below W.heap.size W w3) := B2.out.trans (hb3.mono B2.out.size)
        have HW3 := Lib.hid (HW2.out.below hb3)
        have HT3 := Lib.hid (HT2.out.below hb3)
        have A3' := Lib.hid (A2'.out.below hb3)
        have R13 := Lib.hid (R12.out.below hb3)
        have R23 := Lib.hid (R2.out.below hb3)
        have R3 := Lib.hid hw3
        clear hb3 hw3
        obtain ⟨_, e0, e1, e2, e3, e4, e5⟩ := A3'.out
        have S4 := Lib.hid (set_tells A2 len c2 _ p k n _ (by omega) R23.out q2 q3 HN.out)
        go_wp2_with fail
        refine S4.out.mono ?_
        rintro e w4 ⟨A4, c4, rfl, hc4, hw4, hb4⟩
        clear e0 e1 e2 e3 e4 e5
        have B4 : Hid (Below W.heap.size W w4) := B3.out.trans (hb4.mono B3.out.size)
        have HW4 := Lib.hid (HW3.out.below hb4)
        have HT4 := Lib.hid (HT3.out.below hb4)
        have A4' := Lib.hid (A3'.out.below hb4)
        have R14 := Lib.hid (R13.out.below hb4)
        have R34 := Lib.hid (R3.out.below hb4)
        have R4 := Lib.hid hw4
        clear hb4 hw4
        obtain ⟨_, e0, e1, e2, e3, e4, e5⟩ := A4'.out
        have S5 := Lib.hid (set_tells A1 len c1 _ p k m _ (by omega) R14.out q2 q3 HM.out)
        go_wp2_with fail
        refine S5.out.mono ?_
        rintro e w5 ⟨A5, c5, rfl, hc5, hw5, hb5⟩
        clear e0 e1 e2 e3 e4 e5
        have B5 : Hid (Below W.heap.size W w5) := B4.out.trans (hb5.mono B4.out.size)
        have HW5 := Lib.hid (HW4.out.below hb5)
        have HT5 := Lib.hid (HT4.out.below hb5)
        have A5' := Lib.hid (A4'.out.below hb5)
        have R35 := Lib.hid (R34.out.below hb5)
        have R45 := Lib.hid (R4.out.below hb5)
        rw [set_twice] at hw5
        have R5 := Lib.hid hw5
        clear hb5 hw5
        obtain ⟨_, e0, e1, e2, e3, e4, e5⟩ := A5'.out
        have S6 := Lib.hid (set_tells A len cap _ p k m _ (by omega) HW5.out q2 q3 HM.out)
        go_wp2_with fail
        refine S6.out.mono ?_
        rintro e w6 ⟨A6, c6, rfl, hc6, hw6, hb6⟩
        clear e0 e1 e2 e3 e4 e5
        have B6 : Hid (Below W.heap.size W w6) := B5.out.trans (hb6.mono B5.out.size)
        have HT6 := Lib.hid (HT5.out.below hb6)
        have A6' := Lib.hid (A5'.out.below hb6)
        have R36 := Lib.hid (R35.out.below hb6)
        have R46 := Lib.hid (R45.out.below hb6)
        have R56 := Lib.hid (R5.out.below hb6)
        have R6 := Lib.hid hw6
        clear hb6 hw6
        obtain ⟨_, e0, e1, e2, e3, e4, e5⟩ := A6'.out
        by_cases hA : p + k ≤ q
        · skip
          have E := Lib.hid (set_comm ns p k n q u m (.inl hA))
          have R46 := Lib.hid (show Words w6 A4 len (setW (setW ns p k n) q u m) by rw [E.out]; exact R46.out)
          go_wp2_with fail
          refine (Same_yes A3 A4 len c3 c4 _ _ (by omega) hc3 hc4 R36.out R46.out).mono ?_
          rintro e w7 ⟨rfl, hb7⟩
          have B7 : Hid (Below W.heap.size W w7) := B6.out.trans (hb7.mono B6.out.size)
          have HT7 := Lib.hid (HT6.out.below hb7)
          have R57 := Lib.hid (R56.out.below hb7)
          have R67 := Lib.hid (R6.out.below hb7)
          clear hb7
          go_wp2_with fail
          refine (Same_yes A5 A6 len c5 c6 _ _ (by omega) hc5 hc6 R57.out R67.out).mono ?_
          rintro e w8 ⟨rfl, hb8⟩
          have B8 : Hid (Below W.heap.size W w8) := B7.out.trans (hb8.mono B7.out.size)
          have HT8 := Lib.hid (HT7.out.below hb8)
          clear hb8
          go_wp2_with fail
          refine (live_any _ HT8.out).mono ?_
          rintro e w9 ⟨rfl, hb9⟩
          have B9 : Hid (Below W.heap.size W w9) := B8.out.trans (hb9.mono B8.out.size)
          clear hb9
          go_wp2
          go_ret
          exact ⟨rfl, B9.out⟩
        · by_cases hB : q + u ≤ p
          · skip
            have E := Lib.hid (set_comm ns p k n q u m (.inr hB))
            have R46 := Lib.hid (show Words w6 A4 len (setW (setW ns p k n) q u m) by rw [E.out]; exact R46.out)
            go_wp2_with fail
            refine (Same_yes A3 A4 len c3 c4 _ _ (by omega) hc3 hc4 R36.out R46.out).mono ?_
            rintro e w7 ⟨rfl, hb7⟩
            have B7 : Hid (Below W.heap.size W w7) := B6.out.trans (hb7.mono B6.out.size)
            have HT7 := Lib.hid (HT6.out.below hb7)
            have R57 := Lib.hid (R56.out.below hb7)
            have R67 := Lib.hid (R6.out.below hb7)
            clear hb7
            go_wp2_with fail
            refine (Same_yes A5 A6 len c5 c6 _ _ (by omega) hc5 hc6 R57.out R67.out).mono ?_
            rintro e w8 ⟨rfl, hb8⟩
            have B8 : Hid (Below W.heap.size W w8) := B7.out.trans (hb8.mono B7.out.size)
            have HT8 := Lib.hid (HT7.out.below hb8)
            clear hb8
            go_wp2_with fail
            refine (live_any _ HT8.out).mono ?_
            rintro e w9 ⟨rfl, hb9⟩
            have B9 : Hid (Below W.heap.size W w9) := B8.out.trans (hb9.mono B8.out.size)
            clear hb9
            go_wp2
            go_ret
            exact ⟨rfl, B9.out⟩
          · skip
            go_wp2_with fail
            refine (Same_yes A5 A6 len c5 c6 _ _ (by omega) hc5 hc6 R56.out R6.out).mono ?_
            rintro e w8 ⟨rfl, hb8⟩
            have B8 : Hid (Below W.heap.size W w8) := B6.out.trans (hb8.mono B6.out.size)
            have HT8 := Lib.hid (HT6.out.below hb8)
            clear hb8
            go_wp2_with fail
            refine (live_any _ HT8.out).mono ?_
            rintro e w9 ⟨rfl, hb9⟩
            have B9 : Hid (Below W.heap.size W w9) := B8.out.trans (hb9.mono B8.out.size)
            clear hb9
            go_wp2
            go_ret
            exact ⟨rfl, B9.out⟩
      · have S2 := Lib.hid (Set_no A len cap x2 x3 m w1 (by omega) hin2)
        clear hin2
        go_wp2_with fail
        refine S2.out.mono ?_
        rintro e w2 ⟨rfl, rfl⟩
        go_wp2_with fail
        refine (live_any _ HT1.out).mono ?_
        rintro e w4 ⟨rfl, hb4⟩
        have B4 : Hid (Below W.heap.size W w4) := B1.out.trans (hb4.mono B1.out.size)
        clear hb4
        go_wp2
        go_ret
        exact ⟨rfl, B4.out⟩
    · have S1 := Lib.hid (Set_no A len cap x0 x1 n ((W.alloc (Obj.cells #[Value.int IntKind.i64 x0, Value.int IntKind.i64 x1, Value.int IntKind.i64 x2, Value.int IntKind.i64 x3] 39)).alloc (Obj.cells #[Value.int IntKind.u64 n, Value.int IntKind.u64 m] 42)) (by omega) hin)
      clear hin
      go_enter Tryd.func9, Tryd.ntmps9
      go_wp2_with fail
      refine S1.out.mono ?_
      rintro e w1 ⟨rfl, rfl⟩
      by_cases hin2 : InField len x2 x3
      · have hin' := hin2
        unfold InField at hin'
        obtain ⟨r0, r1, r2, r3⟩ := hin'
        obtain ⟨q, rfl⟩ := Int.eq_ofNat_of_zero_le r0
        obtain ⟨u, rfl⟩ := Int.eq_ofNat_of_zero_le r1
        have r2 : u ≤ 64 := by omega
        have r3 : q + u ≤ 64 * len := by omega
        clear r0 r1 hin2
        have S2 := Lib.hid (set_tells A len cap ns q u m _ (by omega) HW.out r2 r3 HM.out)
        go_wp2_with fail
        refine S2.out.mono ?_
        rintro e w2 ⟨A2, c2, rfl, hc2, hw2, hb2⟩
        have B2 : Hid (Below W.heap.size W w2) := B0.out.trans (hb2.mono B0.out.size)
        have HT2 := Lib.hid (HT.out.below hb2)
        clear hb2 hw2
        go_wp2_with fail
        refine (live_any _ HT2.out).mono ?_
        rintro e w4 ⟨rfl, hb4⟩
        have B4 : Hid (Below W.heap.size W w4) := B2.out.trans (hb4.mono B2.out.size)
        clear hb4
        go_wp2
        go_ret
        exact ⟨rfl, B4.out⟩
      · have S2 := Lib.hid (Set_no A len cap x2 x3 m ((W.alloc (Obj.cells #[Value.int IntKind.i64 x0, Value.int IntKind.i64 x1, Value.int IntKind.i64 x2, Value.int IntKind.i64 x3] 39)).alloc (Obj.cells #[Value.int IntKind.u64 n, Value.int IntKind.u64 m] 42)) (by omega) hin2)
        clear hin2
        go_wp2_with fail
        refine S2.out.mono ?_
        rintro e w2 ⟨rfl, rfl⟩
        go_wp2_with fail
        refine (live_any _ HT.out).mono ?_
        rintro e w4 ⟨rfl, hb4⟩
        have B4 : Hid (Below W.heap.size W w4) := B0.out.trans (hb4.mono B0.out.size)
        clear hb4
        go_wp2
        go_ret
        exact ⟨rfl, B4.out⟩

theorem own : ownKnob Tryd.prog.godebug = none := by kernel_rfl
theorem laidOut : laidOutB Tryd.prog = true := by kernel_rfl
theorem contract (H : Type) (enc : TypeId × Value → H) (W : World) (base : Nat) (args : Array Value) (ds gs : List (DataW H)) (before : List MemPlace)
    (hval : ∀ (j : Nat) t v, Tryd.f9.params[j]? = some t → args[j]? = some v → Value.okWide Tryd.prog W .any base t v)
    (hW : DataW.Whole enc Tryd.prog Tryd.f9.params.toList Rows.bitsApartSpec.vars false W args.toList ds gs before) (hL : laidMetH Tryd.prog Rows.bitsApartRow.laid W) :
    Calls Tryd.prog 9 args W fun e W' => ∃ v, e = .returned v ∧ Rows.bitsApartSpec.post enc Tryd.prog Tryd.f9 false true false false W args v W' := by
  have hW' := hW
  obtain ⟨p, q, hA0, hV, rfl, hfz, hnd⟩ := hW
  have hA : DataW.TrodAll enc Tryd.prog W 0 (fun _ => true) true Tryd.f9.params.toList args.toList ds p := hA0
  rw [Tryd.params9] at hA hval
  obtain ⟨v0, vs0, d0, ds0, p0, q0, hargs, rfl, rfl, h0, r0⟩ := trodAll_cons hA
  obtain ⟨v1, vs1, d1, ds1, p1, q1, rfl, rfl, rfl, h1, r1⟩ := trodAll_cons r0
  obtain ⟨v2, vs2, d2, ds2, p2, q2, rfl, rfl, rfl, h2, r2⟩ := trodAll_cons r1
  obtain ⟨rfl, rfl, rfl⟩ := trodAll_nil r2
  obtain rfl : args = #[v0, v1, v2] := by cases args; simp_all
  obtain ⟨rfl, rfl⟩ := trodVars_none hV
  have k0 := h0
  have lt0 : ∀ x ∈ p0, x.block < W.heap.size := by obtain ⟨m, hm⟩ := k0; exact DataW.trod_lt m _ _ _ hm
  obtain ⟨a0, len0, cap0, z0, rfl, w0⟩ := open_slice_int Tryd.underlying22 Tryd.underlying24 (by kernel_rfl) (hval 0 22 v0 rfl rfl) h0
  have k1 := h1
  have lt1 : ∀ x ∈ p1, x.block < W.heap.size := by obtain ⟨m, hm⟩ := k1; exact DataW.trod_lt m _ _ _ hm
  obtain ⟨l1, rfl, hl1, wl1⟩ := open_arr_int Tryd.underlying39 Tryd.underlying3 (by kernel_rfl) (by kernel_rfl) (hval 1 39 v1 rfl rfl) h1
  obtain ⟨x1_0, x1_1, x1_2, x1_3, rfl⟩ : ∃ x1_0 x1_1 x1_2 x1_3, l1 = [x1_0, x1_1, x1_2, x1_3] := by
    match l1, hl1 with
    | [x1_0, x1_1, x1_2, x1_3], _ => exact ⟨x1_0, x1_1, x1_2, x1_3, rfl⟩
  have k2 := h2
  have lt2 : ∀ x ∈ p2, x.block < W.heap.size := by obtain ⟨m, hm⟩ := k2; exact DataW.trod_lt m _ _ _ hm
  obtain ⟨l2, rfl, hl2, wl2⟩ := open_arr_int Tryd.underlying42 Tryd.underlying24 (by kernel_rfl) (by kernel_rfl) (hval 2 42 v2 rfl rfl) h2
  obtain ⟨x2_0, x2_1, rfl⟩ : ∃ x2_0 x2_1, l2 = [x2_0, x2_1] := by
    match l2, hl2 with
    | [x2_0, x2_1], _ => exact ⟨x2_0, x2_1, rfl⟩
  clear hA0
  refine (walk a0 len0 cap0 z0 x1_0 x1_1 x1_2 x1_3 x2_0 x2_1 w0 (wl1 x1_0 (by simp)) (wl1 x1_1 (by simp)) (wl1 x1_2 (by simp)) (wl1 x1_3 (by simp)) (wl2 x2_0 (by simp)) (wl2 x2_1 (by simp)) (tabW_of hL)).mono fun e W' ⟨he, bel⟩ => ?_
  subst he
  exact ⟨_, rfl, _, _, _, [], _, [], hW', trodAll_mk1 (shut_bool Tryd.underlying4 _), (trodAll_cons_mk (Below.trod laidOut (by kernel_rfl) (of_decide_eq_true (by kernel_rfl)) k0 bel lt0) (trodAll_cons_mk (Below.trod laidOut (by kernel_rfl) (of_decide_eq_true (by kernel_rfl)) k1 bel lt1) (trodAll_cons_mk (Below.trod laidOut (by kernel_rfl) (of_decide_eq_true (by kernel_rfl)) k2 bel lt2) trodAll_mk0))), rfl, bel.frame _, fun h => by cases h⟩

theorem laid_met (os : Os) : laidMet Tryd.prog Rows.bitsApartRow.laid ((laidWorld os).forCall (fun _ _ => 0) ⟨#[], #[.slice none 0 0, .agg #[.int .i64 0, .int .i64 0, .int .i64 0, .int .i64 0], .agg #[.int .u64 0, .int .u64 0]], []⟩).memory :=
  laidMet_of_run' 8 (by kernel_rfl) (by kernel_rfl)
theorem reads (os : Os) {H : Type} (enc : TypeId × Value → H) : ∃ places, DataW.whole enc Tryd.prog ((laidWorld os).forCall (fun _ _ => 0) ⟨#[], #[.slice none 0 0, .agg #[.int .i64 0, .int .i64 0, .int .i64 0, .int .i64 0], .agg #[.int .u64 0, .int .u64 0]], []⟩).memory Tryd.f9.params.toList Rows.bitsApartSpec.vars false (#[.slice none 0 0, .agg #[.int .i64 0, .int .i64 0, .int .i64 0, .int .i64 0], .agg #[.int .u64 0, .int .u64 0]] : Array Value).toList 8 = some ([.nil, .agg [.lit (.int .i64 0), .lit (.int .i64 0), .lit (.int .i64 0), .lit (.int .i64 0)], .agg [.lit (.int .u64 0), .lit (.int .u64 0)]], [], places) :=
  ⟨[], by kernel_rfl⟩

set_option maxRecDepth 100000 in
theorem lifted (os : Os) (started : os.Started) (H : Type) (enc : TypeId × Value → H) (F : Stop.Interp) :
    ReturnsInHanded {} Tryd.checked os 9 .any ((OpenSpec.ofChange Rows.bitsApartSpec).preRow enc Tryd.prog Tryd.f9 Rows.bitsApartRow.domain false Rows.bitsApartRow.laid) (((OpenSpec.ofChange Rows.bitsApartSpec).at F).post enc Tryd.prog Tryd.f9 false true false false) := by
  obtain ⟨places, hx⟩ := reads os enc
  refine returnsInHanded_of_row (C := Tryd.checked) (s := OpenSpec.ofChange Rows.bitsApartSpec) own started (by kernel_rfl) Tryd.func9
    (witness_row_at (enc := enc) (C := Tryd.checked) false (laidWorld os) #[.slice none 0 0, .agg #[.int .i64 0, .int .i64 0, .int .i64 0, .int .i64 0], .agg #[.int .u64 0, .int .u64 0]] rfl (by kernel_rfl) (by kernel_rfl) (by kernel_rfl)
      (OpenSpec.preRow_of_cond 8 hx (by kernel_rfl) (fun k hk => by cases hk) (by kernel_rfl) (laid_met os))) ?_
  intro W base args ds gs before hval hW _ _ _ hL _ _
  exact contract H enc W base args ds gs before hval hW hL

theorem said : Rows.BitsApartSaid :=
  OpenClaim.holds_of_cond 9 Tryd.f9 rfl rfl rfl rfl rfl rfl rfl ⟨rfl, rfl, rfl, rfl, rfl⟩ rfl rfl rfl rfl rfl (by kernel_rfl) Tryd.func9 (by kernel_rfl)
    (of_decide_eq_true (by kernel_rfl)) (by unfold Func.isWrapper; first | (rw [if_pos (by decide +kernel)]; kernel_rfl) | (rw [if_neg (by decide +kernel)]; exact ⟨rfl, rfl⟩))
    (fun os started H enc _ F => by rw [OpenClaim.pre_eq_preRow]; exact lifted os started H enc F)
theorem plain (f : FuncId) (fn : Func) (hf : Tryd.pinned.checked.prog.funcNamed Rows.bitsApartRow.func = some f) (hfn : Tryd.pinned.checked.prog.funcs[f]? = some fn) :
    false = Tryd.pinned.checked.prog.looks [] ∧ ∀ (j : Nat) t, fn.params[j]? = some t → Tryd.pinned.checked.prog.wantsStandIn t = false := by
  obtain rfl : f = 9 := Option.some.inj ((show Tryd.prog.funcNamed Rows.bitsApartRow.func = some 9 by kernel_rfl).symm.trans hf) |>.symm
  obtain rfl : fn = Tryd.f9 := (Option.some.inj (Tryd.func9.symm.trans hfn)).symm
  refine ⟨by kernel_rfl, fun j t ht => ?_⟩
  rw [Tryd.params9] at ht
  have hm := Array.mem_of_getElem? ht
  simp only [List.mem_toArray, List.mem_cons, List.not_mem_nil, or_false] at hm
  rcases hm with rfl | rfl | rfl
  · exact (show Tryd.prog.wantsStandIn 22 = false by kernel_rfl)
  · exact (show Tryd.prog.wantsStandIn 39 = false by kernel_rfl)
  · exact (show Tryd.prog.wantsStandIn 42 = false by kernel_rfl)
theorem card : Rows.BitsApartCardSaid :=
  Claim7.holds_tied_plain_at .later [] _ _ _ _ said (fun _ h => by cases h) (by kernel_rfl) (fun _ h => by cases h) bitsApart_row_tie rfl ⟨rfl, rfl⟩ (by kernel_rfl) rfl plain (by kernel_rfl)
end Go.Proofs.YtefpgpehncllnaaDoor.bitsApart
namespace Go.Proofs.YtefpgpehncllnaaDoor
theorem bitsApart_proved : Rows.BitsApartCardSaid := bitsApart.card
end Go.Proofs.YtefpgpehncllnaaDoor

