/- The document's own: an answer's bytes. -/
import Derived.Test.YtljllfopgpmekabRa2
import Derived.Test.YtljllfopgpmekabSa4
-- prune
namespace Go.Proofs.Ytljllfopgpmekab
open Go.ChangeShapes Go.WideShapes Go.ChangeAt Go.RowKit
set_option linter.unusedVariables false

theorem wide_1 (n : Int) (w : World) : Calls Try.prog 43 #[.int .i64 n, .int .i64 1] w (TellsS (nB n 1) w) := wide2_any n 1 (by decide) w
theorem wide_2 (n : Int) (w : World) : Calls Try.prog 43 #[.int .i64 n, .int .i64 2] w (TellsS (nB n 2) w) := wide2_any n 2 (by decide) w
theorem wide_4 (n : Int) (w : World) : Calls Try.prog 43 #[.int .i64 n, .int .i64 4] w (TellsS (nB n 4) w) := wide2_any n 4 (by decide) w
theorem wide_6 (n : Int) (w : World) : Calls Try.prog 43 #[.int .i64 n, .int .i64 6] w (TellsS (nB n 6) w) := wide2_any n 6 (by decide) w
theorem rPut_any (s : ByteArray) (w : World) (hs : s.size ≤ maxLen) :
    Calls Try.prog 44 #[.string s] w fun e w' => ∃ t x, e = .returned (.tuple #[.string t, .bool x]) ∧ t.data.toList = tB s ∧ t.size ≤ 256 ∧ Below w.heap.size w w' := by
  by_cases h : s.size ≤ 255
  · refine (rPut_yes s w h).mono ?_
    rintro e w' ⟨rfl, hb⟩
    have e1 : (putB s).data.toList = tB s := by
      unfold putB tB
      rw [if_pos h, ByteArray.data_append, Array.toList_append]
      simp [wideL, byteN, List.range_succ]
      rw [show ((s.size : Int) % 256).toNat = s.size by omega]
    refine ⟨_, _, rfl, e1, ?_, hb⟩
    have := congrArg List.length e1
    rw [tB_len h] at this
    simp at this
    omega
  · refine (rPut_no s w (by omega) hs).mono ?_
    rintro e w' ⟨rfl, rfl⟩
    exact ⟨_, _, rfl, by unfold tB; rw [if_neg h], by decide, Below.refl _ _⟩
theorem run_add (a b : ByteArray) (h : a.size + b.size ≤ maxLen) (u : World) : (binOp .add 9 (.string a) (.string b)).run Try.prog u = .ok (.string (a ++ b)) u := by
  unfold maxLen at h
  go_simp
theorem OW.an {a : An} {A N : Option Addr} {ca cn : Nat} {w w1 : World} (h : OW [.int .i64 a.kind, .int .i64 a.code, .slice A a.told.length ca, .int .i64 a.ver, .int .i64 a.pk, .int .i64 a.pl, .int .i64 a.pw, .int .i64 a.pb, .int .i64 a.now, .int .i64 a.count, .slice N a.names.length cn] 43 w w1) : w1.cell? ⟨w.heap.size, 0, none⟩ = some (.int .i64 a.kind) ∧ w1.cell? ⟨w.heap.size, 1, none⟩ = some (.int .i64 a.code) ∧ w1.cell? ⟨w.heap.size, 2, none⟩ = some (.slice A a.told.length ca) ∧ w1.cell? ⟨w.heap.size, 3, none⟩ = some (.int .i64 a.ver) ∧ w1.cell? ⟨w.heap.size, 4, none⟩ = some (.int .i64 a.pk) ∧ w1.cell? ⟨w.heap.size, 5, none⟩ = some (.int .i64 a.pl) ∧ w1.cell? ⟨w.heap.size, 6, none⟩ = some (.int .i64 a.pw) ∧ w1.cell? ⟨w.heap.size, 7, none⟩ = some (.int .i64 a.pb) ∧ w1.cell? ⟨w.heap.size, 8, none⟩ = some (.int .i64 a.now) ∧ w1.cell? ⟨w.heap.size, 9, none⟩ = some (.int .i64 a.count) ∧ w1.cell? ⟨w.heap.size, 10, none⟩ = some (.slice N a.names.length cn) := ⟨h.x.cell 0, h.x.cell 1, h.x.cell 2, h.x.cell 3, h.x.cell 4, h.x.cell 5, h.x.cell 6, h.x.cell 7, h.x.cell 8, h.x.cell 9, h.x.cell 10⟩
theorem OW.td {x : Td} {wr w1 : World} (h : OW [.int .i64 x.code, .bool x.al, .int .i64 x.rem, .int .i64 x.ret, .int .i64 x.res] 70 wr w1) : w1.cell? ⟨wr.heap.size, 0, none⟩ = some (.int .i64 x.code) ∧ w1.cell? ⟨wr.heap.size, 1, none⟩ = some (.bool x.al) ∧ w1.cell? ⟨wr.heap.size, 2, none⟩ = some (.int .i64 x.rem) ∧ w1.cell? ⟨wr.heap.size, 3, none⟩ = some (.int .i64 x.ret) ∧ w1.cell? ⟨wr.heap.size, 4, none⟩ = some (.int .i64 x.res) := ⟨h.x.cell 0, h.x.cell 1, h.x.cell 2, h.x.cell 3, h.x.cell 4⟩
/-- The bytes of one thing, behind others. -/
theorem anT_app (a : An) (i : Nat) (h : i < a.told.length) (x : Td) (e : x = a.told[i]) (f : Int) (hf : f = flN x.al) : anT a (i + 1) = anT a i ++ (nB x.code 1 ++ (nB f 1 ++ (nB x.rem 4 ++ (nB x.ret 6 ++ nB x.res 6)))) := by
  subst hf e; exact anT_next a i h

theorem plB_len (k l v b : Int) : (plB k l v b).length = 10 := by unfold plB; simp only [List.length_append, nB_len]
theorem OW.tdb {b : Bool} {x : Td} {wr w1 : World} (h : OW [.int .i64 x.code, .bool b, .int .i64 x.rem, .int .i64 x.ret, .int .i64 x.res] 70 wr w1) : w1.cell? ⟨wr.heap.size, 0, none⟩ = some (.int .i64 x.code) ∧ w1.cell? ⟨wr.heap.size, 1, none⟩ = some (.bool b) ∧ w1.cell? ⟨wr.heap.size, 2, none⟩ = some (.int .i64 x.rem) ∧ w1.cell? ⟨wr.heap.size, 3, none⟩ = some (.int .i64 x.ret) ∧ w1.cell? ⟨wr.heap.size, 4, none⟩ = some (.int .i64 x.res) := ⟨h.x.cell 0, h.x.cell 1, h.x.cell 2, h.x.cell 3, h.x.cell 4⟩
set_option maxRecDepth 100000 in
set_option maxHeartbeats 4000000 in
theorem rEncode_l (a : An) (v : Value) (w : World) (ha : IsAn w v a) : Calls Try.prog 22 #[v] w fun e w' =>
    ∃ (s : ByteArray) (c : Int), e = .returned (.tuple #[.string s, .int .i64 c]) ∧ s.data.toList = encT a ∧ c = encC a ∧ Below w.heap.size w w' := by
  obtain ⟨A, ca, N, cn, rfl, ha⟩ := ha
  have HA := Lib.hid ha
  have X0 := Lib.hid (OW.made (anC a A ca N cn) 43 w)
  have M0 := Lib.hid (fun u (hu : Below w.heap.size w u) => rMay_any a _ u (HA.out.old hu))
  clear ha
  unfold anC at X0 ⊢
  by_cases ok : AnOk a
  case neg =>
    have D := Lib.hid (show decide (AnOk a) = false by simp [ok])
    have R := Lib.hid (enc_bad ok)
    clear ok
    go_enter Try.func22, Try.ntmps22
    go_wp2_with fail
    refine (M0.out _ X0.out.be).mono ?_
    rintro e w1 ⟨rfl, hb⟩
    rw [D.out]
    have X1 := Lib.hid (X0.out.next hb)
    clear hb
    go_wp2
    go_ret2
    exact ⟨⟨#[]⟩, 1, rfl, by rw [R.out.1], R.out.2.symm, X1.out.be⟩
  case pos =>
    have D := Lib.hid (show decide (AnOk a) = true by simp [ok])
    have t32 := ok.told
    have n32 := ok.names
    have OK := Lib.hid ok
    clear ok
    go_enter Try.func22, Try.ntmps22
    go_wp2_with fail
    refine (M0.out _ X0.out.be).mono ?_
    rintro e w1 ⟨rfl, hb⟩
    rw [D.out]
    have B0 := Lib.hid (X0.out.next hb)
    clear hb X0
    go_wp2_with fail
    go_region_held3 (fun w' => w'.cell? ⟨w.heap.size, 0, none⟩ = some (.int .i64 a.kind) ∧ w'.cell? ⟨w.heap.size, 1, none⟩ = some (.int .i64 a.code) ∧ w'.cell? ⟨w.heap.size, 2, none⟩ = some (.slice A a.told.length ca) ∧ w'.cell? ⟨w.heap.size, 3, none⟩ = some (.int .i64 a.ver) ∧ w'.cell? ⟨w.heap.size, 4, none⟩ = some (.int .i64 a.pk) ∧ w'.cell? ⟨w.heap.size, 5, none⟩ = some (.int .i64 a.pl) ∧ w'.cell? ⟨w.heap.size, 6, none⟩ = some (.int .i64 a.pw) ∧ w'.cell? ⟨w.heap.size, 7, none⟩ = some (.int .i64 a.pb) ∧ w'.cell? ⟨w.heap.size, 8, none⟩ = some (.int .i64 a.now) ∧ w'.cell? ⟨w.heap.size, 9, none⟩ = some (.int .i64 a.count) ∧ w'.cell? ⟨w.heap.size, 10, none⟩ = some (.slice N a.names.length cn)) (first | (with_reducible exact OW.an (a := a) (A := A) (N := N) (ca := ca) (cn := cn) B0.out) | (with_reducible exact OW.an (a := a) (A := A) (N := N) (ca := ca) (cn := cn) B0.out.drew) | (with_reducible exact OW.an (a := a) (A := A) (N := N) (ca := ca) (cn := cn) B1.out) | (with_reducible exact OW.an (a := a) (A := A) (N := N) (ca := ca) (cn := cn) B2.out) | (with_reducible exact OW.an (a := a) (A := A) (N := N) (ca := ca) (cn := cn) B3.out) | (with_reducible exact OW.an (a := a) (A := A) (N := N) (ca := ca) (cn := cn) B4.out) | (with_reducible exact OW.an (a := a) (A := A) (N := N) (ca := ca) (cn := cn) B5.out) | (with_reducible exact OW.an (a := a) (A := A) (N := N) (ca := ca) (cn := cn) B6.out) | (with_reducible exact OW.an (a := a) (A := A) (N := N) (ca := ca) (cn := cn) B7.out) | go_keep) (first | (go_at_call 43; (with_reducible refine (wide_1 a.kind _).mono ?_); rintro e v1 ⟨s1, rfl, hs, hb⟩; have B1 := Lib.hid (B0.out.drew.next hb); have z1 := list_size hs; have L1 := Lib.hid hs; rw [nB_len] at z1; clear hb hs) | (go_at_call 43; (with_reducible refine (wide_1 a.code _).mono ?_); rintro e v2 ⟨s2, rfl, hs, hb⟩; have B2 := Lib.hid (B1.out.next hb); have z2 := list_size hs; have L2 := Lib.hid hs; rw [nB_len] at z2; clear hb hs) | (go_at_call 43; (with_reducible refine (wide_4 a.ver _).mono ?_); rintro e v3 ⟨s3, rfl, hs, hb⟩; have B3 := Lib.hid (B2.out.next hb); have z3 := list_size hs; have L3 := Lib.hid hs; rw [nB_len] at z3; clear hb hs) | (go_at_call 32; (with_reducible refine (rPolicy_any a.pk a.pl a.pw a.pb _).mono ?_); rintro e v4 ⟨s4, rfl, hs, hb⟩; have B4 := Lib.hid (B3.out.next hb); have z4 := list_size hs; have L4 := Lib.hid hs; rw [plB_len] at z4; clear hb hs) | (go_at_call 43; (with_reducible refine (wide_6 a.now _).mono ?_); rintro e v5 ⟨s5, rfl, hs, hb⟩; have B5 := Lib.hid (B4.out.next hb); have z5 := list_size hs; have L5 := Lib.hid hs; rw [nB_len] at z5; clear hb hs) | (go_at_call 43; (with_reducible refine (wide_2 a.count _).mono ?_); rintro e v6 ⟨s6, rfl, hs, hb⟩; have B6 := Lib.hid (B5.out.next hb); have z6 := list_size hs; have L6 := Lib.hid hs; rw [nB_len] at z6; clear hb hs) | (go_at_call 43; (with_reducible refine (wide_1 (a.told.length : Int) _).mono ?_); rintro e v7 ⟨s7, rfl, hs, hb⟩; have B7 := Lib.hid (B6.out.next hb); have z7 := list_size hs; have L7 := Lib.hid hs; rw [nB_len] at z7; clear hb hs))
    go_wp2_with fail
    go_loopw [4, 5] (fun s i wr => ∃ (k : Nat) (S : ByteArray), k ≤ a.told.length ∧ i = .int .i64 k ∧ s = .string S ∧ S.data.toList = anT a k ∧ OW (anC a A ca N cn) 43 w wr) (fun _ i _ => a.told.length - (intOf i).toNat)
    case atStart => exact ⟨0, _, Nat.zero_le _, rfl, rfl, by simp [anT, anH, L1.out, L2.out, L3.out, L4.out, L5.out, L6.out, L7.out], B7.out⟩
    clear z1 z2 z3 z4 z5 z6 z7 L1 L2 L3 L4 L5 L6 L7 B0 B1 B2 B3 B4 B5 B6 B7
    case round =>
      obtain ⟨i, S, hi, rfl, rfl, hS, hx⟩ := hrel
      have XR := Lib.hid hx
      have SB := Lib.hid hS
      have zS : S.size ≤ 1000 := by rw [list_size hS]; exact anT_len a i (by omega)
      clear hx hS
      have x2 := XR.out.x.cell 2
      simp [anC] at x2
      have g1 := XR.out.x.lt
      by_cases hlt : i < a.told.length
      · obtain ⟨bb, off, e1, hb1, hy⟩ := ((HA.out.below XR.out.be).ts).get hlt
        obtain ⟨x, hx⟩ : ∃ x, x = a.told[i] := ⟨_, rfl⟩
        rw [← hx] at hy
        have ex := Lib.hid hx
        have u0 := hy 0 _ rfl
        have u1 := hy 1 _ rfl
        have u2 := hy 2 _ rfl
        have u3 := hy 3 _ rfl
        have u4 := hy 4 _ rfl
        simp at u0 u1 u2 u3 u4
        clear hy hx
        subst e1
        by_cases hal : x.al = true
        · have EB := Lib.hid (anT_app a i hlt x ex.out 1 (by rw [hal]; rfl))
          rw [hal] at u1
          have Q0 := Lib.hid (OW.made [.int .i64 x.code, .bool true, .int .i64 x.rem, .int .i64 x.ret, .int .i64 x.res] 70 wr)
          go_wp2_with fail
          go_region_held3 (fun w' => w'.cell? ⟨wr.heap.size, 0, none⟩ = some (.int .i64 x.code) ∧ w'.cell? ⟨wr.heap.size, 1, none⟩ = some (.bool true) ∧ w'.cell? ⟨wr.heap.size, 2, none⟩ = some (.int .i64 x.rem) ∧ w'.cell? ⟨wr.heap.size, 3, none⟩ = some (.int .i64 x.ret) ∧ w'.cell? ⟨wr.heap.size, 4, none⟩ = some (.int .i64 x.res)) (first | (with_reducible exact OW.tdb Q0.out) | (with_reducible exact OW.tdb Q0.out.drew) | (with_reducible exact OW.tdb Q1.out) | (with_reducible exact OW.tdb Q2.out) | (with_reducible exact OW.tdb Q3.out) | (with_reducible exact OW.tdb Q4.out) | (with_reducible exact OW.tdb Q5.out) | go_keep) (first | (go_at_call 43; (with_reducible refine (wide_1 x.code _).mono ?_); rintro e v1 ⟨s1, rfl, hs, hb⟩; have Q1 := Lib.hid (Q0.out.drew.next hb); have z1 := list_size hs; have L1 := Lib.hid hs; rw [nB_len] at z1; have Z1 := Lib.hid z1; clear z1; have ad1 : ¬ 9223372036854775807 < S.size + s1.size := (by have := Z1.out; omega); clear hb hs) | (go_at_call 43; (with_reducible refine (wide_1 1 _).mono ?_); rintro e v2 ⟨s2, rfl, hs, hb⟩; have Q2 := Lib.hid (Q1.out.next hb); have z2 := list_size hs; have L2 := Lib.hid hs; rw [nB_len] at z2; have Z2 := Lib.hid z2; clear z2; have ad2 : ¬ 9223372036854775807 < S.size + s1.size + s2.size := (by have := Z1.out; have := Z2.out; omega); clear hb hs) | (go_at_call 43; (with_reducible refine (wide_4 x.rem _).mono ?_); rintro e v3 ⟨s3, rfl, hs, hb⟩; have Q3 := Lib.hid (Q2.out.next hb); have z3 := list_size hs; have L3 := Lib.hid hs; rw [nB_len] at z3; have Z3 := Lib.hid z3; clear z3; have ad3 : ¬ 9223372036854775807 < S.size + s1.size + s2.size + s3.size := (by have := Z1.out; have := Z2.out; have := Z3.out; omega); clear hb hs) | (go_at_call 43; (with_reducible refine (wide_6 x.ret _).mono ?_); rintro e v4 ⟨s4, rfl, hs, hb⟩; have Q4 := Lib.hid (Q3.out.next hb); have z4 := list_size hs; have L4 := Lib.hid hs; rw [nB_len] at z4; have Z4 := Lib.hid z4; clear z4; have ad4 : ¬ 9223372036854775807 < S.size + s1.size + s2.size + s3.size + s4.size := (by have := Z1.out; have := Z2.out; have := Z3.out; have := Z4.out; omega); clear hb hs) | (go_at_call 43; (with_reducible refine (wide_6 x.res _).mono ?_); rintro e v5 ⟨s5, rfl, hs, hb⟩; have Q5 := Lib.hid (Q4.out.next hb); have z5 := list_size hs; have L5 := Lib.hid hs; rw [nB_len] at z5; have Z5 := Lib.hid z5; clear z5; have ad5 : ¬ 9223372036854775807 < S.size + s1.size + s2.size + s3.size + s4.size + s5.size := (by have := Z1.out; have := Z2.out; have := Z3.out; have := Z4.out; have := Z5.out; omega); clear hb hs))
          all_goals
            go_wp2_with fail
            go_roundw
            case rel => exact ⟨i + 1, _, by omega, by go_num, rfl, by simp [EB.out, SB.out, L1.out, L2.out, L3.out, L4.out, L5.out], XR.out.next Q5.out.be⟩
            case measure => simp [intOf]; omega
        · have hal : x.al = false := by simpa using hal
          have EB := Lib.hid (anT_app a i hlt x ex.out 0 (by rw [hal]; rfl))
          rw [hal] at u1
          have Q0 := Lib.hid (OW.made [.int .i64 x.code, .bool false, .int .i64 x.rem, .int .i64 x.ret, .int .i64 x.res] 70 wr)
          go_wp2_with fail
          go_region_held3 (fun w' => w'.cell? ⟨wr.heap.size, 0, none⟩ = some (.int .i64 x.code) ∧ w'.cell? ⟨wr.heap.size, 1, none⟩ = some (.bool false) ∧ w'.cell? ⟨wr.heap.size, 2, none⟩ = some (.int .i64 x.rem) ∧ w'.cell? ⟨wr.heap.size, 3, none⟩ = some (.int .i64 x.ret) ∧ w'.cell? ⟨wr.heap.size, 4, none⟩ = some (.int .i64 x.res)) (first | (with_reducible exact OW.tdb Q0.out) | (with_reducible exact OW.tdb Q0.out.drew) | (with_reducible exact OW.tdb Q1.out) | (with_reducible exact OW.tdb Q2.out) | (with_reducible exact OW.tdb Q3.out) | (with_reducible exact OW.tdb Q4.out) | (with_reducible exact OW.tdb Q5.out) | go_keep) (first | (go_at_call 43; (with_reducible refine (wide_1 x.code _).mono ?_); rintro e v1 ⟨s1, rfl, hs, hb⟩; have Q1 := Lib.hid (Q0.out.drew.next hb); have z1 := list_size hs; have L1 := Lib.hid hs; rw [nB_len] at z1; have Z1 := Lib.hid z1; clear z1; have ad1 : ¬ 9223372036854775807 < S.size + s1.size := (by have := Z1.out; omega); clear hb hs) | (go_at_call 43; (with_reducible refine (wide_1 0 _).mono ?_); rintro e v2 ⟨s2, rfl, hs, hb⟩; have Q2 := Lib.hid (Q1.out.next hb); have z2 := list_size hs; have L2 := Lib.hid hs; rw [nB_len] at z2; have Z2 := Lib.hid z2; clear z2; have ad2 : ¬ 9223372036854775807 < S.size + s1.size + s2.size := (by have := Z1.out; have := Z2.out; omega); clear hb hs) | (go_at_call 43; (with_reducible refine (wide_4 x.rem _).mono ?_); rintro e v3 ⟨s3, rfl, hs, hb⟩; have Q3 := Lib.hid (Q2.out.next hb); have z3 := list_size hs; have L3 := Lib.hid hs; rw [nB_len] at z3; have Z3 := Lib.hid z3; clear z3; have ad3 : ¬ 9223372036854775807 < S.size + s1.size + s2.size + s3.size := (by have := Z1.out; have := Z2.out; have := Z3.out; omega); clear hb hs) | (go_at_call 43; (with_reducible refine (wide_6 x.ret _).mono ?_); rintro e v4 ⟨s4, rfl, hs, hb⟩; have Q4 := Lib.hid (Q3.out.next hb); have z4 := list_size hs; have L4 := Lib.hid hs; rw [nB_len] at z4; have Z4 := Lib.hid z4; clear z4; have ad4 : ¬ 9223372036854775807 < S.size + s1.size + s2.size + s3.size + s4.size := (by have := Z1.out; have := Z2.out; have := Z3.out; have := Z4.out; omega); clear hb hs) | (go_at_call 43; (with_reducible refine (wide_6 x.res _).mono ?_); rintro e v5 ⟨s5, rfl, hs, hb⟩; have Q5 := Lib.hid (Q4.out.next hb); have z5 := list_size hs; have L5 := Lib.hid hs; rw [nB_len] at z5; have Z5 := Lib.hid z5; clear z5; have ad5 : ¬ 9223372036854775807 < S.size + s1.size + s2.size + s3.size + s4.size + s5.size := (by have := Z1.out; have := Z2.out; have := Z3.out; have := Z4.out; have := Z5.out; omega); clear hb hs))
          all_goals
            go_wp2_with fail
            go_roundw
            case rel => exact ⟨i + 1, _, by omega, by go_num, rfl, by simp [EB.out, SB.out, L1.out, L2.out, L3.out, L4.out, L5.out], XR.out.next Q5.out.be⟩
            case measure => simp [intOf]; omega
      · obtain rfl : i = a.told.length := by omega
        have S32 := Lib.hid (show S.data.toList = anT a 32 by rw [SB.out]; unfold anT; rw [List.take_of_length_le (Nat.le_refl _), List.take_of_length_le t32])
        have x10 := XR.out.x.cell 10
        simp [anC] at x10
        go_wp2_with fail
        refine (wide_1 (a.names.length : Int) _).mono ?_
        rintro e w2 ⟨s1, rfl, hs1, hb⟩
        have X2 := Lib.hid (XR.out.next hb)
        have z1 := list_size hs1
        rw [nB_len] at z1
        have L1 := Lib.hid hs1
        clear hb hs1 x2 x10
        go_wp2_with fail
        go_loopw [4, 8] (fun s i wr => ∃ (k : Nat) (S : ByteArray), k ≤ a.names.length ∧ i = .int .i64 k ∧ s = .string S ∧ S.data.toList = anN a k ∧ OW (anC a A ca N cn) 43 w wr) (fun _ i _ => a.names.length - (intOf i).toNat)
        case atStart => exact ⟨0, _, Nat.zero_le _, rfl, rfl, by simp [anN, S32.out, L1.out], X2.out⟩
        case round =>
          obtain ⟨i, S2, hi2, rfl, rfl, hS, hx⟩ := hrel
          have XR := Lib.hid hx
          have SB := Lib.hid hS
          have zS2 : S2.size ≤ 20000 := by rw [list_size hS]; exact anN_len a i (by omega)
          clear hx hS
          have x10 := XR.out.x.cell 10
          simp [anC] at x10
          have g1 := XR.out.x.lt
          by_cases hlt : i < a.names.length
          · obtain ⟨bb, off, e1, hb1, hy⟩ := ((HA.out.below XR.out.be).ns).get hlt
            obtain ⟨x, hx⟩ : ∃ x, x = a.names[i] := ⟨_, rfl⟩
            have KS := Lib.hid (HA.out.ks a.names[i] (List.getElem_mem _))
            have EN := Lib.hid (anN_next a i hlt)
            rw [← hx] at hy KS EN
            have u0 := hy 0 _ rfl
            have u1 := hy 1 _ rfl
            simp at u0 u1
            clear hy hx
            subst e1
            go_wp2_with fail
            refine (rPut_any x.key _ KS.out).mono ?_
            rintro e w3 ⟨p, q, rfl, hp, hp2, hb⟩
            have X3 := Lib.hid (XR.out.next hb)
            have PL := Lib.hid hp
            have c10 := X3.out.x.cell 10
            simp [anC] at c10
            have d0 := (hb.cell (p := ⟨bb, off + i * 2, none⟩) hb1).trans u0
            clear hb hp u0 u1 x10
            go_wp2_with fail
            refine (wide_1 x.book _).mono ?_
            rintro e w4 ⟨s2, rfl, hs2, hb⟩
            have X4 := Lib.hid (X3.out.next hb)
            have z2 := list_size hs2
            rw [nB_len] at z2
            have L2 := Lib.hid hs2
            clear hb hs2 c10 d0
            all_goals
              go_wp2_with fail
              go_roundw
              case rel => exact ⟨i + 1, _, by omega, by go_num, rfl, by simp [EN.out, SB.out, L2.out, PL.out, nmB], X4.out⟩
              case measure => simp [intOf]; omega
          · obtain rfl : i = a.names.length := by omega
            have AB := Lib.hid (show S2.data.toList = anB a by rw [SB.out, ← anN_all]; unfold anN; rw [List.take_of_length_le (Nat.le_refl _), List.take_of_length_le n32])
            have hl : S2.size = (anB a).length := list_size AB.out
            by_cases h5 : (anB a).length ≤ 512
            · have R := Lib.hid (enc_yes OK.out h5)
              have h6 : S2.size ≤ 512 := by omega
              clear hl h5
              go_wp2
              go_ret2
              exact ⟨S2, 0, rfl, by rw [R.out.1, AB.out], R.out.2.symm, XR.out.be⟩
            · have R := Lib.hid (enc_big OK.out h5)
              have h6 : 512 < S2.size := by omega
              clear hl h5
              go_wp2
              go_ret2
              exact ⟨⟨#[]⟩, 8, rfl, by rw [R.out.1], R.out.2.symm, XR.out.be⟩
end Go.Proofs.Ytljllfopgpmekab
