/- answer.write: the bytes of any answer. -/
import Derived.Test.YtljllfopgpmekabWb2
import Derived.Test.YtljllfopgpmekabAn1
-- prune
namespace Go.Proofs.Ytljllfopgpmekab
open Go.ChangeShapes Go.WideShapes Go.ChangeAt Go.RowKit
set_option linter.unusedVariables false

/-- While an answer is written. -/
structure XW (C : List Value) (w : World) (l : List UInt8) (w1 : World) : Prop where
  wb : WB 104 (w.heap.size + 1) (w.heap.size + 1) l w1
  be : Below (w.heap.size + 1) (w.alloc (.cells C.toArray 43)) w1
section
variable {C : List Value} {w w1 w2 : World} {l l' : List UInt8}
theorem XW.has (h : XW C w l w1) : Has w1 w.heap.size 43 C := (Has.made w 43 C).below h.be (by omega)
theorem XW.next (h : XW C w l w1) (hb : WB 104 (w.heap.size + 1) (w.heap.size + 1) l' w2) (hf : FW (w.heap.size + 1) (w.heap.size + 1) w1 w2) : XW C w l' w2 := ⟨hb, h.be.trans hf.be⟩
theorem XW.size (h : XW C w l w1) : w.heap.size + 1 ≤ w1.heap.size := by have := h.be.size; simp at this; exact this
theorem XW.lt (h : XW C w l w1) : w.heap.size + 1 < w1.heap.size := h.wb.lt
theorem XW.old (h : XW C w l w1) : Below w.heap.size w w1 := ((Below.refl _ w).alloc (Nat.le_refl _) (.cells C.toArray 43)).trans (h.be.mono (by omega))
theorem XW.drew (h : XW C w l w1) : XW C w l w1.drew := ⟨h.wb.step (Below.refl _ _).drew, h.be.drew⟩
theorem XW.alloc (h : XW C w l w1) (o : Obj) : XW C w l (w1.alloc o) := ⟨h.wb.step ((Below.refl _ _).alloc (Nat.le_refl _) _), h.be.alloc h.size _⟩
theorem XW.made (C : List Value) (w : World) : XW C w [] ((w.alloc (.cells C.toArray 43)).alloc (.cells #[.pointer none, .slice none 0 0] 104)) := by
  have e : w.heap.size + 1 = (w.alloc (.cells C.toArray 43)).heap.size := by simp
  refine ⟨?_, (Below.refl _ _).alloc (by rw [e]; exact Nat.le_refl _) _⟩
  rw [e]
  exact WB.made _ (Nat.le_refl _)
end
theorem cutT (A : Option Addr) (n k c : Nat) (hk : k ≤ n) (hc : n ≤ c) (hm : c ≤ maxLen) (u : World) : (Instr.slice 40 (.slice A n c) none (some (.int .i64 (k : Int))) none).run Try.prog u = .ok (.slice A k c) u := by
  unfold maxLen at hm
  have h1 : k ≤ c := by omega
  go_simp
theorem cutN (A : Option Addr) (n k c : Nat) (hk : k ≤ n) (hc : n ≤ c) (hm : c ≤ maxLen) (u : World) : (Instr.slice 41 (.slice A n c) none (some (.int .i64 (k : Int))) none).run Try.prog u = .ok (.slice A k c) u := by
  unfold maxLen at hm
  have h1 : k ≤ c := by omega
  go_simp
/-- From here on: the whole of it. -/
theorem take_min {α : Type} (l : List α) : l.take (min l.length 32) = l.take 32 := by
  by_cases h : l.length ≤ 32
  · rw [Nat.min_eq_left h, List.take_of_length_le (Nat.le_refl _), List.take_of_length_le h]
  · rw [Nat.min_eq_right (by omega)]
theorem tdF_len (xs : List Td) : (xs.flatMap tdB).length = 18 * xs.length := by
  induction xs with
  | nil => rfl
  | cons x xs ih => rw [List.flatMap_cons, List.length_append, ih]; simp [tdB, nB_len]; omega
theorem tB_le (s : ByteArray) : (tB s).length ≤ 256 := by
  unfold tB
  split
  · simp; omega
  · simp
theorem nmF_len (xs : List Nm) : (xs.flatMap nmB).length ≤ 257 * xs.length := by
  induction xs with
  | nil => simp
  | cons x xs ih =>
    have := tB_le x.key
    rw [List.flatMap_cons, List.length_append]
    simp only [nmB, List.length_append, nB_len, List.length_cons]; omega
theorem flat_next {α β : Type} (f : α → List β) (xs : List α) (k : Nat) (hk : k < xs.length) : (xs.take (k + 1)).flatMap f = (xs.take k).flatMap f ++ f xs[k] := by
  rw [List.take_succ_eq_append_getElem hk, List.flatMap_append]; simp
/-- The bytes ahead of the first list. -/
def anH (a : An) : List UInt8 := nB a.kind 1 ++ nB a.code 1 ++ nB a.ver 4 ++ plB a.pk a.pl a.pw a.pb ++ nB a.now 6 ++ nB a.count 2
theorem anH_len (a : An) : (anH a).length = 24 := by unfold anH plB; simp only [List.length_append, nB_len]
/-- .. and the first list, i things of it. -/
def anT (a : An) (i : Nat) : List UInt8 := anH a ++ nB a.told.length 1 ++ (a.told.take i).flatMap tdB
def anN (a : An) (i : Nat) : List UInt8 := anT a 32 ++ nB a.names.length 1 ++ (a.names.take i).flatMap nmB
theorem anN_all (a : An) : anN a 32 = anB a := by unfold anN anT anH anB; simp only [List.append_assoc]
theorem anT_len (a : An) (i : Nat) (hi : i ≤ 32) : (anT a i).length ≤ 1000 := by
  unfold anT; simp only [List.length_append, nB_len, anH_len, tdF_len, List.length_take]; omega
theorem anN_len (a : An) (i : Nat) (hi : i ≤ 32) : (anN a i).length ≤ 20000 := by
  have h1 := anT_len a 32 (Nat.le_refl _)
  have h2 := nmF_len (a.names.take i)
  rw [List.length_take] at h2
  unfold anN; simp only [List.length_append, nB_len]; omega
theorem anT_next (a : An) (i : Nat) (h : i < a.told.length) : anT a (i + 1) = anT a i ++ tdB a.told[i] := by unfold anT; rw [flat_next tdB _ _ h, ← List.append_assoc]
theorem anN_next (a : An) (i : Nat) (h : i < a.names.length) : anN a (i + 1) = anN a i ++ nmB a.names[i] := by unfold anN; rw [flat_next nmB _ _ h, ← List.append_assoc]
theorem anT_min (a : An) : anT a (min a.told.length 32) = anT a 32 := by unfold anT; rw [take_min]
theorem anN_min (a : An) : anN a (min a.names.length 32) = anN a 32 := by unfold anN; rw [take_min]
theorem anB_ne (a : An) : anB a ≠ [] := by
  intro h
  have := congrArg List.length h
  rw [← anN_all] at this
  unfold anN anT at this
  simp only [List.length_append, anH_len, List.length_nil] at this
  omega
set_option maxRecDepth 100000 in
set_option maxHeartbeats 1000000 in
theorem write_any (a : An) (v : Value) (w : World) (hA : IsAn w v a) :
    Calls Try.prog 42 #[v] w fun e w' => ∃ s : ByteArray, e = .returned (.string s) ∧ s.data.toList = anB a ∧ Below w.heap.size w w' := by
  obtain ⟨A, ca, N, cn, rfl, hA⟩ := hA
  have HA := Lib.hid hA
  have X0 := Lib.hid (XW.made (anC a A ca N cn) w)
  have c0 := X0.out.has.cell 0
  simp [anC] at c0
  clear hA
  unfold anC
  go_enter Try.func42, Try.ntmps42
  go_wp2_with fail
  refine (wNumber_any _ _ ([]) (a.kind) 1 _ (by decide) X0.out.wb X0.out.size (by first | decide | (simp only [List.length_append, nB_len, List.length_nil]; omega))).mono ?_
  rintro e w1 ⟨rfl, h1, f1⟩
  have X1 := Lib.hid (X0.out.next h1 f1)
  clear h1 f1 c0
  have d1_1 := X1.out.has.cell 1
  simp [anC] at d1_1
  go_wp2_with fail
  refine (wNumber_any _ _ ([] ++ nB a.kind 1) (a.code) 1 _ (by decide) X1.out.wb X1.out.size (by first | decide | (simp only [List.length_append, nB_len, List.length_nil]; omega))).mono ?_
  rintro e w2 ⟨rfl, h2, f2⟩
  have X2 := Lib.hid (X1.out.next h2 f2)
  clear h2 f2 d1_1
  have d2_3 := X2.out.has.cell 3
  simp [anC] at d2_3
  go_wp2_with fail
  refine (wNumber_any _ _ ([] ++ nB a.kind 1 ++ nB a.code 1) (a.ver) 4 _ (by decide) X2.out.wb X2.out.size (by first | decide | (simp only [List.length_append, nB_len, List.length_nil]; omega))).mono ?_
  rintro e w3 ⟨rfl, h3, f3⟩
  have X3 := Lib.hid (X2.out.next h3 f3)
  clear h3 f3 d2_3
  have d3_4 := X3.out.has.cell 4
  simp [anC] at d3_4
  have d3_5 := X3.out.has.cell 5
  simp [anC] at d3_5
  have d3_6 := X3.out.has.cell 6
  simp [anC] at d3_6
  have d3_7 := X3.out.has.cell 7
  simp [anC] at d3_7
  go_wp2_with fail
  refine (wPolicy_any _ _ ([] ++ nB a.kind 1 ++ nB a.code 1 ++ nB a.ver 4) a.pk a.pl a.pw a.pb _ X3.out.wb X3.out.size X3.out.lt (by first | decide | (simp only [List.length_append, nB_len, List.length_nil]; omega))).mono ?_
  rintro e w4 ⟨rfl, h4, f4⟩
  have X4 := Lib.hid (X3.out.next h4 f4)
  clear h4 f4 d3_4 d3_5 d3_6 d3_7
  have d4_8 := X4.out.has.cell 8
  simp [anC] at d4_8
  go_wp2_with fail
  refine (wNumber_any _ _ ([] ++ nB a.kind 1 ++ nB a.code 1 ++ nB a.ver 4 ++ plB a.pk a.pl a.pw a.pb) (a.now) 6 _ (by decide) X4.out.wb X4.out.size (by first | decide | (simp only [List.length_append, nB_len, plB, List.length_nil]; omega))).mono ?_
  rintro e w5 ⟨rfl, h5, f5⟩
  have X5 := Lib.hid (X4.out.next h5 f5)
  clear h5 f5 d4_8
  have d5_9 := X5.out.has.cell 9
  simp [anC] at d5_9
  go_wp2_with fail
  refine (wNumber_any _ _ ([] ++ nB a.kind 1 ++ nB a.code 1 ++ nB a.ver 4 ++ plB a.pk a.pl a.pw a.pb ++ nB a.now 6) (a.count) 2 _ (by decide) X5.out.wb X5.out.size (by first | decide | (simp only [List.length_append, nB_len, plB, List.length_nil]; omega))).mono ?_
  rintro e w6 ⟨rfl, h6, f6⟩
  have X6 := Lib.hid (X5.out.next h6 f6)
  clear h6 f6 d5_9
  have Y0 := Lib.hid (show XW (anC a A ca N cn) w (anH a) w6 by have := X6.out; unfold anH; simpa only [List.nil_append] using this)
  have hcut : ∀ u : World, (Instr.slice 40 (.slice A a.told.length ca) none (some (.int .i64 ((min a.told.length 32 : Nat) : Int))) none).run Try.prog u = .ok (.slice A (min a.told.length 32 : Nat) ca) u := fun u => cutT A _ _ _ (Nat.min_le_left _ _) HA.out.t1 HA.out.t2 u
  have hcutN : ∀ u : World, (Instr.slice 41 (.slice N a.names.length cn) none (some (.int .i64 ((min a.names.length 32 : Nat) : Int))) none).run Try.prog u = .ok (.slice N (min a.names.length 32 : Nat) cn) u := fun u => cutN N _ _ _ (Nat.min_le_left _ _) HA.out.n1 HA.out.n2 u
  obtain ⟨M, hM⟩ : ∃ M : Nat, M = min a.told.length 32 := ⟨_, rfl⟩
  obtain ⟨K, hK⟩ : ∃ K : Nat, K = min a.names.length 32 := ⟨_, rfl⟩
  have M1 : M ≤ a.told.length ∧ M ≤ 32 := by omega
  have K1 : K ≤ a.names.length ∧ K ≤ 32 := by omega
  rw [← hM] at hcut
  rw [← hK] at hcutN
  have HM := Lib.hid hM
  have HK := Lib.hid hK
  clear hM hK
  have HIt : ∀ wq, XW (anC a A ca N cn) w (anH a) wq → Calls Try.prog 59 #[.pointer (some ⟨w.heap.size + 1, 0, none⟩), .int .i64 (a.told.length : Int)] wq (WroteN 104 (w.heap.size + 1) (w.heap.size + 1) (anT a 0) M wq) := by
    intro wq hq
    rw [HM.out]
    have : anT a 0 = anH a ++ nB a.told.length 1 := by unfold anT; simp
    rw [this]
    exact wItems_any _ _ _ _ _ hq.wb hq.size (by rw [anH_len]; omega)
  have HIn : ∀ wq, XW (anC a A ca N cn) w (anT a 32) wq → Calls Try.prog 59 #[.pointer (some ⟨w.heap.size + 1, 0, none⟩), .int .i64 (a.names.length : Int)] wq (WroteN 104 (w.heap.size + 1) (w.heap.size + 1) (anN a 0) K wq) := by
    intro wq hq
    rw [HK.out]
    have : anN a 0 = anT a 32 ++ nB a.names.length 1 := by unfold anN; simp
    rw [this]
    have := anT_len a 32 (Nat.le_refl _)
    exact wItems_any _ _ _ _ _ hq.wb hq.size (by omega)
  have HI := Lib.hid HIt
  have HJ := Lib.hid HIn
  clear HIt HIn
  go_wp2_with fail
  go_region_held3 (fun w' => w'.cell? ⟨w.heap.size, 2, none⟩ = some (.slice A a.told.length ca)) (first | (with_reducible exact by have := Y0.out.has.cell 2; simpa [anC] using this) | (with_reducible exact by have := Y0.out.drew.has.cell 2; simpa [anC] using this) | (with_reducible exact by have := Y1.out.has.cell 2; simpa [anC] using this) | go_keep) (first | (go_at_call 59; (with_reducible refine (HI.out _ Y0.out.drew).mono ?_); rintro e w7 ⟨rfl, h7, f7⟩; have Y1 := Lib.hid (Y0.out.drew.next h7 f7); clear h7 f7))
  go_wp2_with fail
  go_loopw [43] (fun i wr => ∃ k : Nat, k ≤ M ∧ i = .int .i64 k ∧ XW (anC a A ca N cn) w (anT a k) wr) (fun i _ => M - (intOf i).toNat)
  case atStart => exact ⟨0, Nat.zero_le _, rfl, Y1.out⟩
  case round =>
    obtain ⟨k, hk, rfl, hx⟩ := hrel
    have XR := Lib.hid hx
    clear hx
    by_cases hlt : k < M
    · have hkt : k < a.told.length := by omega
      obtain ⟨bq, oq, rfl, hbq, hq⟩ := (HA.out.ts.below XR.out.old).get hkt
      have EN := Lib.hid (anT_next a k hkt)
      obtain ⟨t, ht⟩ : ∃ t, t = a.told[k] := ⟨_, rfl⟩
      rw [← ht] at hq EN
      have q0 := hq 0 _ rfl
      have q1 := hq 1 _ rfl
      have q2 := hq 2 _ rfl
      have q3 := hq 3 _ rfl
      have q4 := hq 4 _ rfl
      simp at q0 q1 q2 q3 q4
      clear hq ht
      have XA := Lib.hid (XR.out.alloc (.cells #[.int .i64 t.code, .bool t.al, .int .i64 t.rem, .int .i64 t.ret, .int .i64 t.res] 70))
      have LN := Lib.hid (anT_len a k (by omega))
      go_wp2_with fail
      refine (wTold_any _ _ (anT a k) t _ XA.out.wb XA.out.size XA.out.lt (by have := LN.out; omega)).mono ?_
      rintro e w8 ⟨rfl, h8, f8⟩
      rw [← EN.out] at h8
      have X8 := Lib.hid (XA.out.next h8 f8)
      clear h8 f8 q0 q1 q2 q3 q4
      go_wp2
      go_roundw
      case rel => exact ⟨k + 1, by omega, by go_num, X8.out⟩
      case measure => simp [intOf]; omega
    · obtain rfl : k = M := by omega
      have Y2 := Lib.hid (show XW (anC a A ca N cn) w (anT a 32) wr by have := XR.out; rw [HM.out, anT_min] at this; exact this)
      go_wp2_with fail
      go_region_held3 (fun w' => w'.cell? ⟨w.heap.size, 10, none⟩ = some (.slice N a.names.length cn)) (first | (with_reducible exact by have := Y2.out.has.cell 10; simpa [anC] using this) | (with_reducible exact by have := Y2.out.drew.has.cell 10; simpa [anC] using this) | (with_reducible exact by have := Y3.out.has.cell 10; simpa [anC] using this) | go_keep) (first | (go_at_call 59; (with_reducible refine (HJ.out _ Y2.out.drew).mono ?_); rintro e w7 ⟨rfl, h7, f7⟩; have Y3 := Lib.hid (Y2.out.drew.next h7 f7); clear h7 f7))
      go_wp2_with fail
      go_loopw [60] (fun i wr => ∃ k : Nat, k ≤ K ∧ i = .int .i64 k ∧ XW (anC a A ca N cn) w (anN a k) wr) (fun i _ => K - (intOf i).toNat)
      case atStart => exact ⟨0, Nat.zero_le _, rfl, Y3.out⟩
      case round =>
        obtain ⟨k, hk, rfl, hx⟩ := hrel
        have XR := Lib.hid hx
        clear hx
        by_cases hlt : k < K
        · have hkt : k < a.names.length := by omega
          obtain ⟨bq, oq, rfl, hbq, hq⟩ := (HA.out.ns.below XR.out.old).get hkt
          have EN := Lib.hid (anN_next a k hkt)
          obtain ⟨t, ht⟩ : ∃ t, t = a.names[k] := ⟨_, rfl⟩
          have KS := Lib.hid (HA.out.ks t (by rw [ht]; exact List.getElem_mem _))
          rw [← ht] at hq EN
          have q0 := hq 0 _ rfl
          have q1 := hq 1 _ rfl
          simp at q0 q1
          clear hq ht
          have XA := Lib.hid (XR.out.alloc (.cells #[.int .i64 t.book, .string t.key] 26))
          have LN := Lib.hid (anN_len a k (by omega))
          go_wp2_with fail
          refine (wName_any _ _ (anN a k) t _ KS.out XA.out.wb XA.out.size XA.out.lt (by have := LN.out; omega)).mono ?_
          rintro e w8 ⟨rfl, h8, f8⟩
          rw [← EN.out] at h8
          have X8 := Lib.hid (XA.out.next h8 f8)
          clear h8 f8 q0 q1
          go_wp2
          go_roundw
          case rel => exact ⟨k + 1, by omega, by go_num, X8.out⟩
          case measure => simp [intOf]; omega
        · obtain rfl : k = K := by omega
          have Y4 := Lib.hid (show XW (anC a A ca N cn) w (anB a) wr by have := XR.out; rw [HK.out, anN_min, anN_all] at this; exact this)
          go_wp2_with fail
          refine (BString_any (T := 104) _ _ (anB a) _ Y4.out.wb (anB_ne a)).mono ?_
          rintro e w9 ⟨rfl, h9⟩
          have R := Lib.hid (show Below w.heap.size w w9 from Y4.out.old.trans (h9.mono (by omega)))
          clear h9
          go_wp2
          go_ret
          exact ⟨_, rfl, by simp, R.out⟩
end Go.Proofs.Ytljllfopgpmekab
