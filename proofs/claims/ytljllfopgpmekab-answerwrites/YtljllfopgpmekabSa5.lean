/- The document's examples of answers: live tells true. -/
import Derived.Test.YtljllfopgpmekabSa4
-- prune
namespace Go.Proofs.Ytljllfopgpmekab
open Go.ChangeShapes Go.WideShapes Go.ChangeAt Go.RowKit
set_option linter.unusedVariables false

def aNeg : An := ⟨-1, 0, [], 0, 0, 0, 0, 0, 0, 0, []⟩
def aFar : An := ⟨0, 0, [], 0, 0, 0, 0, 0, 281474976710656, 0, []⟩
theorem badNeg : ¬ AnOk aNeg := fun h => absurd h.kind (by decide)
theorem badFar : ¬ AnOk aFar := fun h => absurd h.now (by decide)
theorem isE0 (w : World) (a : An) (h1 : a.told = []) (h2 : a.names = []) : IsAn w (.agg (anC a none 0 none 0).toArray) a :=
  ⟨none, 0, none, 0, rfl, by rw [h1]; exact Nat.le_refl _, Nat.zero_le _, by rw [h2]; exact Nat.le_refl _, Nat.zero_le _, by rw [h1]; exact SeqAt.nil, by rw [h2]; exact SeqAt.nil, by rw [h2]; intro n hn; cases hn⟩
/-- Behind the second example: both answers lie there. -/
structure LX (A N : Option Addr) (ca cn g : Nat) (w w1 : World) : Prop where
  v : LV w w1
  y : Has w1 g 43 (anC aE A ca N cn)
  ib : AnAt w1 aE A ca N cn
theorem LX.next {A N : Option Addr} {ca cn g : Nat} {w w1 w2 : World} (h : LX A N ca cn g w w1) (hb : Below w1.heap.size w1 w2) : LX A N ca cn g w w2 := ⟨h.v.next hb, h.y.below hb h.y.lt, h.ib.below hb⟩
set_option maxRecDepth 100000 in
set_option maxHeartbeats 4000000 in
theorem live_any (w : World) : Calls Try.prog 20 #[] w fun e w' => e = .returned (.bool true) ∧ Below w.heap.size w w' := by
  have X0 := Lib.hid (LV.made w)
  go_enter Try.func20, Try.ntmps20
  go_wp2_with fail
  refine (Encode_l aE _ _ ⟨_, _, _, _, rfl, X0.out.ia⟩).mono ?_
  rintro e w1 ⟨S, c, rfl, hS, hc, hb⟩
  have X1 := Lib.hid (X0.out.next hb)
  have ez := enc_yes okE (by rw [lenE]; decide)
  obtain rfl : c = 0 := hc.trans ez.2
  rw [ez.1] at hS
  have SL := Lib.hid hS
  have hS2 := bA_sub hS
  have s47 : S.size = 47 := by rw [hS2, bA_size, lenE]
  have x1 : S.extract 24 26 = ⟨#[1, 0]⟩ := by rw [hS2]; kernel_rfl
  have x2 : S.extract 26 31 = ⟨#[1, 0, 0, 1, 2]⟩ := by rw [hS2]; kernel_rfl
  clear hb X0 ez hS hS2 hc
  go_wp2_with fail
  refine (Decode_l S (by unfold maxLen; omega) _).mono ?_
  rintro e w2 ⟨v, c, a2, rfl, hc, ha, hv, hb⟩
  have db := dec_back okE (by rw [lenE]; decide)
  rw [SL.out, db.1] at ha
  rw [SL.out, db.2] at hc
  subst hc ha
  obtain ⟨A, ca, N, cn, rfl, hv⟩ := hv
  have X2 := Lib.hid (show LX A N ca cn w2.heap.size w (w2.alloc (.cells (anC aE A ca N cn).toArray 43)) from ⟨(X1.out.next hb).next ((Below.refl _ _).alloc (Nat.le_refl _) _), Has.made _ _ _, hv.below ((Below.refl _ _).alloc (Nat.le_refl _) _)⟩)
  clear hb hv db X1
  unfold anC at X2 ⊢
  go_wp2_with fail
  refine (Encode_l zAn _ _ (isZ _)).mono ?_
  rintro e w3 ⟨Z, c, rfl, hZ, hc, hb⟩
  have X3 := Lib.hid (X2.out.next hb)
  have ez := enc_yes okZ (by rw [lenZ]; decide)
  obtain rfl : c = 0 := hc.trans ez.2
  rw [ez.1] at hZ
  have z26 : Z.size = 26 := by rw [bA_sub hZ, bA_size, lenZ]
  have SX := Lib.hid (show (S ++ ⟨#[120]⟩).size ≤ maxLen by rw [ByteArray.size_append, s47, show (⟨#[120]⟩ : ByteArray).size = 1 from rfl]; unfold maxLen; omega)
  clear hb X2 ez hZ hc
  go_wp2_with fail
  obtain ⟨S2, hS2⟩ : ∃ S2, S2 = S ++ (⟨#[120]⟩ : ByteArray) := ⟨_, rfl⟩
  rw [← hS2] at SX ⊢
  refine (Decode_l S2 SX.out _).mono ?_
  rintro e w4 ⟨v, c, a4, rfl, hc, ha4, hv, hb⟩
  clear ha4
  obtain rfl : c = 3 := hc.trans (by
    rw [hS2, ByteArray.data_append, Array.toList_append, SL.out]
    exact dec_more okE _ (by simp))
  obtain ⟨A4, ca4, N4, cn4, rfl, hv4⟩ := hv
  clear hv4
  have X4 := Lib.hid ((X3.out.next hb).next ((Below.refl _ _).alloc (Nat.le_refl _) (.cells (anC a4 A4 ca4 N4 cn4).toArray 43)))
  clear hb X3 hc hS2
  unfold anC at X4 ⊢
  go_wp2_with fail
  refine (Encode_l aNeg _ _ (isE0 _ aNeg rfl rfl)).mono ?_
  rintro e w5 ⟨Y, c, rfl, hY, hc, hb⟩
  clear hY
  obtain rfl : c = 1 := hc.trans (enc_bad badNeg).2
  have X5 := Lib.hid (X4.out.next hb)
  clear hb X4 hc
  go_wp2_with fail
  obtain ⟨S3, hS3⟩ : ∃ S3, S3 = (⟨#[]⟩ : ByteArray) := ⟨_, rfl⟩
  rw [← hS3]
  refine (Decode_l S3 (by rw [hS3]; exact Nat.zero_le _) _).mono ?_
  rintro e w6 ⟨v, c, a6, rfl, hc, ha6, hv, hb⟩
  clear ha6
  obtain rfl : c = 3 := hc.trans (by rw [hS3]; exact dec_none)
  obtain ⟨A6, ca6, N6, cn6, rfl, hv6⟩ := hv
  clear hv6
  have X6 := Lib.hid ((X5.out.next hb).next ((Below.refl _ _).alloc (Nat.le_refl _) (.cells (anC a6 A6 ca6 N6 cn6).toArray 43)))
  clear hb hc X5
  unfold anC at X6 ⊢
  obtain ⟨W7, hW7⟩ : ∃ W, W = w6.alloc (.cells (anC a6 A6 ca6 N6 cn6).toArray 43) := ⟨_, rfl⟩
  have hW := hW7.symm
  unfold anC at hW
  rw [hW] at X6
  clear hW7

  have p0 := X6.out.v.x.cell 0
  have q0 := X6.out.y.cell 0
  have p1 := X6.out.v.x.cell 1
  have q1 := X6.out.y.cell 1
  have p2 := X6.out.v.x.cell 2
  have q2 := X6.out.y.cell 2
  have p3 := X6.out.v.x.cell 3
  have q3 := X6.out.y.cell 3
  have p4 := X6.out.v.x.cell 4
  have q4 := X6.out.y.cell 4
  have p5 := X6.out.v.x.cell 5
  have q5 := X6.out.y.cell 5
  have p6 := X6.out.v.x.cell 6
  have q6 := X6.out.y.cell 6
  have p7 := X6.out.v.x.cell 7
  have q7 := X6.out.y.cell 7
  have p8 := X6.out.v.x.cell 8
  have q8 := X6.out.y.cell 8
  have p9 := X6.out.v.x.cell 9
  have q9 := X6.out.y.cell 9
  have p10 := X6.out.v.x.cell 10
  have q10 := X6.out.y.cell 10
  simp [anC, aE] at p0 q0 p1 q1 p2 q2 p3 q3 p4 q4 p5 q5 p6 q6 p7 q7 p8 q8 p9 q9 p10 q10
  go_wp2_with fail
  refine (rsame_any aE aE _ _ _ ⟨_, _, _, _, rfl, X6.out.v.ia⟩ ⟨_, _, _, _, rfl, X6.out.ib⟩).mono ?_
  rintro e w8 ⟨⟨q, rfl, hq⟩, hb⟩
  obtain rfl : q = true := hq.2 rfl
  have X8 := Lib.hid (X6.out.next hb)
  clear hb hq X6 hW p0 q0 p1 q1 p2 q2 p3 q3 p4 q4 p5 q5 p6 q6 p7 q7 p8 q8 p9 q9 p10 q10
  have p0 := X8.out.v.x.cell 0
  have p1 := X8.out.v.x.cell 1
  have p2 := X8.out.v.x.cell 2
  have p3 := X8.out.v.x.cell 3
  have p4 := X8.out.v.x.cell 4
  have p5 := X8.out.v.x.cell 5
  have p6 := X8.out.v.x.cell 6
  have p7 := X8.out.v.x.cell 7
  have p8 := X8.out.v.x.cell 8
  have p9 := X8.out.v.x.cell 9
  have p10 := X8.out.v.x.cell 10
  simp [anC, aE] at p0 p1 p2 p3 p4 p5 p6 p7 p8 p9 p10
  go_wp2_with fail
  refine (May_any aE _ _ ⟨_, _, _, _, rfl, X8.out.v.ia⟩).mono ?_
  rintro e w9 ⟨rfl, hb⟩
  rw [show decide (AnOk aE) = true by simp [okE]]
  have X9 := Lib.hid (X8.out.next hb)
  clear hb X8 p0 p1 p2 p3 p4 p5 p6 p7 p8 p9 p10
  go_wp2_with fail
  refine (May_any aFar _ _ (isE0 _ aFar rfl rfl)).mono ?_
  rintro e w10 ⟨rfl, hb⟩
  rw [show decide (AnOk aFar) = false by simp [badFar]]
  have X10 := Lib.hid (X9.out.next hb)
  clear hb X9
  go_wp2
  go_ret
  exact ⟨rfl, X10.out.v.be⟩
end Go.Proofs.Ytljllfopgpmekab
