/- New, and what the statements' own live tells. WRITTEN BY gen_bkLive.py. -/
import Derived.Test.YtgdcgilhaedbmacBk8
import Derived.Deep.RegionHeld3
import Derived.Deep.DeepCutAuto
namespace Go.Proofs.Ytgdcgilhaedbmac
open Go.ChangeShapes Go.WideShapes Go.ChangeAt Go.RowKit
set_option linter.unusedVariables false

def L0 : Nat → Bk := fun _ => nilBk
theorem run_makeB (u : World) : (Instr.makeSlice 22 (.int .i64 8) (.int .i64 8)).run Try.prog u = .ok (.slice (some ⟨u.heap.size, 0, none⟩) 8 8) (u.alloc (.cells (bkv L0 8).toArray 43)) := by kernel_rfl
/-- What New tells. -/
def NewK (w : World) (e : Ending) (w' : World) : Prop := ∃ A cap, e = .returned (.slice A 8 cap) ∧ BksAt w' A 8 L0 ∧ Below w.heap.size w w'
theorem New_any (w : World) : Calls Try.prog 17 #[] w (NewK w) := by
  have mk := run_makeB
  have HB := Lib.hid (show BksAt (w.alloc (.cells (bkv L0 8).toArray 43)) (some ⟨w.heap.size, 0, none⟩) 8 L0 from has_bks (rest := []) (by simpa using Has.made w 43 (bkv L0 8)))
  have BE := Lib.hid ((Below.refl w.heap.size w).alloc (Nat.le_refl _) (.cells (bkv L0 8).toArray 43))
  generalize (bkv L0 8).toArray = cs at mk HB BE
  go_enter Try.func17, Try.ntmps17
  go_wp2_with fail
  go_ret
  exact ⟨_, _, rfl, HB.out, BE.out⟩
theorem rNew_any (w : World) : Calls Try.prog 18 #[] w (NewK w) := by
  have mk := run_makeB
  have HB := Lib.hid (show BksAt (w.alloc (.cells (bkv L0 8).toArray 43)) (some ⟨w.heap.size, 0, none⟩) 8 L0 from has_bks (rest := []) (by simpa using Has.made w 43 (bkv L0 8)))
  have BE := Lib.hid ((Below.refl w.heap.size w).alloc (Nat.le_refl _) (.cells (bkv L0 8).toArray 43))
  generalize (bkv L0 8).toArray = cs at mk HB BE
  go_enter Try.func18, Try.ntmps18
  go_wp2_with fail
  go_ret
  exact ⟨_, _, rfl, HB.out, BE.out⟩
instance (k l v b : Int) : Decidable (MayP k l v b) := by unfold MayP; infer_instance
instance (B : Bk) : Decidable (MayB B) := decidable_of_iff (0 ≤ B.n ∧ B.n ≤ 1073741824 ∧ (B.on = true → MayP B.k B.l B.v B.b ∧ 1 ≤ B.n) ∧ (B.on = false → B.k = 0 ∧ B.l = 0 ∧ B.v = 0 ∧ B.b = 0)) ⟨fun ⟨a, b, c, d⟩ => ⟨a, b, c, d⟩, fun h => ⟨h.n0, h.n1, h.y, h.f⟩⟩
instance (n : Nat) (L : Nat → Bk) : Decidable (MayBs n L) := by unfold MayBs; infer_instance
instance (n : Nat) (L : Nat → Bk) (id k l v b c : Int) : Decidable (SetC n L id k l v b c) := by unfold SetC; infer_instance
instance (n : Nat) (L : Nat → Bk) (id c : Int) : Decidable (GetC n L id c) := by unfold GetC; infer_instance
def LA : Nat → Bk := setL 0 L0 3 2 1 1 0
def LB : Nat → Bk := setL 0 LA 3 2 2 1 0
def LC : Nat → Bk := delL 0 LB 3
def LX : Nat → Bk := setL 0 LC 3 2 1 1 0
theorem toldK_eq {P : Nat} {args : Array Value} {w : World} {n : Nat} {L : Nat → Bk} {m m' c : Int} (h : Calls Try.prog P args w (ToldK n L m c w)) (e : m = m') : Calls Try.prog P args w (ToldK n L m' c w) := by subst e; exact h
theorem lvA (u : World) (A : Option Addr) (cap : Nat) (h : BksAt u A 8 L0) : Calls Try.prog 19 #[.slice A 8 cap, .int .i64 3, .agg #[.int .i64 2, .int .i64 1, .int .i64 1, .int .i64 0]] u (ToldK 8 LA 1 0 u) := toldK_eq (Set_any A 8 cap L0 3 2 1 1 0 0 u h (by decide) (by decide +kernel)) (by decide +kernel)
theorem lvB (u : World) (A : Option Addr) (cap : Nat) (h : BksAt u A 8 LA) : Calls Try.prog 19 #[.slice A 8 cap, .int .i64 3, .agg #[.int .i64 2, .int .i64 2, .int .i64 1, .int .i64 0]] u (ToldK 8 LB 2 0 u) := toldK_eq (Set_any A 8 cap LA 3 2 2 1 0 0 u h (by decide) (by decide +kernel)) (by decide +kernel)
theorem lvX (u : World) (A : Option Addr) (cap : Nat) (h : BksAt u A 8 LC) : Calls Try.prog 19 #[.slice A 8 cap, .int .i64 3, .agg #[.int .i64 2, .int .i64 1, .int .i64 1, .int .i64 0]] u (ToldK 8 LX 3 0 u) := toldK_eq (Set_any A 8 cap LC 3 2 1 1 0 0 u h (by decide) (by decide +kernel)) (by decide +kernel)
theorem lvE (u : World) (A : Option Addr) (cap : Nat) (h : BksAt u A 8 LC) : Calls Try.prog 19 #[.slice A 8 cap, .int .i64 8, .agg #[.int .i64 2, .int .i64 1, .int .i64 1, .int .i64 0]] u (ToldK 8 LC 0 1 u) := Set_any A 8 cap LC 8 2 1 1 0 1 u h (by decide) (by decide +kernel)
theorem lvD (u : World) (A : Option Addr) (cap : Nat) (h : BksAt u A 8 LB) : Calls Try.prog 21 #[.slice A 8 cap, .int .i64 3] u (ToldD 8 LC 0 u) := Delete_any A 8 cap LB 3 0 u h (by decide) (by decide +kernel)
theorem lvD2 (u : World) (A : Option Addr) (cap : Nat) (h : BksAt u A 8 LC) : Calls Try.prog 21 #[.slice A 8 cap, .int .i64 3] u (ToldD 8 LC 5 u) := Delete_any A 8 cap LC 3 5 u h (by decide) (by decide +kernel)
theorem lvG (u : World) (A : Option Addr) (cap : Nat) (h : BksAt u A 8 LB) : Calls Try.prog 9 #[.slice A 8 cap, .int .i64 3] u fun e w' => e = .returned (.tuple #[.agg #[.int .i64 2, .int .i64 2, .int .i64 1, .int .i64 0], .int .i64 2, .int .i64 0]) ∧ Below u.heap.size u w' := Get_any A 8 cap LB 3 0 u h (by decide) (by decide +kernel)
theorem lvG2 (u : World) (A : Option Addr) (cap : Nat) (h : BksAt u A 8 LC) : Calls Try.prog 9 #[.slice A 8 cap, .int .i64 3] u fun e w' => e = .returned (.tuple #[.agg #[.int .i64 0, .int .i64 0, .int .i64 0, .int .i64 0], .int .i64 0, .int .i64 5]) ∧ Below u.heap.size u w' := Get_any A 8 cap LC 3 5 u h (by decide) (by decide +kernel)
theorem lvL (u : World) (A : Option Addr) (cap : Nat) (h : BksAt u A 8 LX) : Calls Try.prog 14 #[.slice A 8 cap] u fun e w' => ∃ A' cap', e = .returned (.slice A' 1 cap') ∧ RdI w' A' 1 (fun _ => 3) ∧ Below u.heap.size u w' :=
  (Live_any A 8 cap LX u h (by decide)).mono (fun e w' q => by
    obtain ⟨A', cap', h1, h2, h3⟩ := q
    have e1 : liveL LX 8 = [3] := by decide +kernel
    rw [e1] at h1 h2
    refine ⟨A', cap', h1, fun h0 => ?_, h3⟩
    obtain ⟨b, o, ea, hl, hc⟩ := h2 h0
    refine ⟨b, o, ea, hl, fun i hi => ?_⟩
    obtain rfl : i = 0 := by omega
    exact hc 0 (by decide))
theorem lvL2 (u : World) (A : Option Addr) (cap : Nat) (h : BksAt u A 8 LC) : Calls Try.prog 14 #[.slice A 8 cap] u fun e w' => ∃ A' cap', e = .returned (.slice A' 0 cap') ∧ Below u.heap.size u w' :=
  (Live_any A 8 cap LC u h (by decide)).mono (fun e w' q => by
    obtain ⟨A', cap', h1, h2, h3⟩ := q
    have e1 : liveL LC 8 = [] := by decide +kernel
    rw [e1] at h1
    exact ⟨A', cap', h1, h3⟩)
theorem lvM (u : World) (A : Option Addr) (cap : Nat) (h : BksAt u A 8 LX) : Calls Try.prog 11 #[.slice A 8 cap] u fun e w' => e = .returned (.bool true) ∧ Below u.heap.size u w' := May_any true A 8 cap LX u h (by decide) ⟨fun _ => rfl, fun _ => by decide +kernel⟩
theorem lvN (u : World) : Calls Try.prog 11 #[.slice none 0 0] u fun e w' => e = .returned (.bool false) ∧ Below u.heap.size u w' := May_any false none 0 0 L0 u (BksAt.nil _ _ _) (by decide) ⟨fun q => absurd q.1 (by decide), fun q => by cases q⟩
/-- The two policies. -/
structure PQ (w0 w : World) : Prop where
  p : Has w w0.heap.size 25 [.int .i64 2, .int .i64 1, .int .i64 1, .int .i64 0]
  q : Has w (w0.heap.size + 1) 25 [.int .i64 2, .int .i64 2, .int .i64 1, .int .i64 0]
  be : Below w0.heap.size w0 w
theorem PQ.step {w0 w w' : World} (h : PQ w0 w) (hb : Below w.heap.size w w') : PQ w0 w' := ⟨h.p.below hb h.p.lt, h.q.below hb h.q.lt, h.be.trans (hb.mono h.be.size)⟩
theorem PQ.drew {w0 w : World} (h : PQ w0 w) : PQ w0 w.drew := h.step (Below.refl _ _).drew
theorem PQ.cells {w0 w : World} (h : PQ w0 w) : (w.cell? ⟨w0.heap.size, 0, none⟩ = some (.int .i64 2) ∧ w.cell? ⟨w0.heap.size, 1, none⟩ = some (.int .i64 1) ∧ w.cell? ⟨w0.heap.size, 2, none⟩ = some (.int .i64 1) ∧ w.cell? ⟨w0.heap.size, 3, none⟩ = some (.int .i64 0)) ∧ (w.cell? ⟨w0.heap.size + 1, 0, none⟩ = some (.int .i64 2) ∧ w.cell? ⟨w0.heap.size + 1, 1, none⟩ = some (.int .i64 2) ∧ w.cell? ⟨w0.heap.size + 1, 2, none⟩ = some (.int .i64 1) ∧ w.cell? ⟨w0.heap.size + 1, 3, none⟩ = some (.int .i64 0)) :=
  ⟨⟨h.p.cell 0, h.p.cell 1, h.p.cell 2, h.p.cell 3⟩, h.q.cell 0, h.q.cell 1, h.q.cell 2, h.q.cell 3⟩
theorem hfour {w : World} {g : Nat} {t : TypeId} {a b c d : Value} (h : Has w g t [a, b, c, d]) : w.cell? ⟨g, 0, none⟩ = some a ∧ w.cell? ⟨g, 1, none⟩ = some b ∧ w.cell? ⟨g, 2, none⟩ = some c ∧ w.cell? ⟨g, 3, none⟩ = some d := ⟨h.cell 0, h.cell 1, h.cell 2, h.cell 3⟩
theorem hstep {w w' : World} {g : Nat} {t : TypeId} {l : List Value} (h : Has w g t l) (hb : Below w.heap.size w w') : Has w' g t l := h.below hb h.lt
set_option maxRecDepth 100000 in
set_option maxHeartbeats 4000000 in
theorem live_any (w : World) : Calls Try.prog 8 #[] w fun e w' => e = .returned (.bool true) ∧ Below w.heap.size w w' := by
  have S0 := Lib.hid (show PQ w ((w.alloc (.cells #[.int .i64 2, .int .i64 1, .int .i64 1, .int .i64 0] 25)).alloc (.cells #[.int .i64 2, .int .i64 2, .int .i64 1, .int .i64 0] 25)) from ⟨(Has.made w 25 [.int .i64 2, .int .i64 1, .int .i64 1, .int .i64 0]).alloc _, (by simpa using Has.made (w.alloc (.cells #[.int .i64 2, .int .i64 1, .int .i64 1, .int .i64 0] 25)) 25 [.int .i64 2, .int .i64 2, .int .i64 1, .int .i64 0]), ((Below.refl _ _).alloc (Nat.le_refl _) _).alloc (by simp) _⟩)
  go_enter Try.func8, Try.ntmps8
  go_wp2_with fail
  generalize (w.alloc (.cells #[.int .i64 2, .int .i64 1, .int .i64 1, .int .i64 0] 25)).alloc (.cells #[.int .i64 2, .int .i64 2, .int .i64 1, .int .i64 0] 25) = w0 at S0 ⊢
  go_cut [3, 4, 5] (fun s3 s4 s5 wx => s4 = .int .i64 1 ∧ s5 = .int .i64 0 ∧ ∃ A cap, s3 = .slice A 8 cap ∧ BksAt wx A 8 LA ∧ PQ w wx)
  case first =>
    go_region_held3 (fun w' => w'.cell? ⟨w.heap.size, 0, none⟩ = some (.int .i64 2) ∧ w'.cell? ⟨w.heap.size, 1, none⟩ = some (.int .i64 1) ∧ w'.cell? ⟨w.heap.size, 2, none⟩ = some (.int .i64 1) ∧ w'.cell? ⟨w.heap.size, 3, none⟩ = some (.int .i64 0)) (first | (with_reducible exact S0.out.cells.1) | (with_reducible exact S0.out.drew.cells.1) | (with_reducible exact S1.out.cells.1) | (with_reducible exact S2.out.cells.1) | go_keep) (first | (go_at_call 17; (with_reducible refine (New_any _).mono ?_); rintro e w1 ⟨A, cap, rfl, h1, hb⟩; have S1 := Lib.hid (S0.out.drew.step hb); have K1 := Lib.hid h1; clear hb h1) | (go_at_call 19; (with_reducible refine (lvA _ _ _ K1.out).mono ?_); rintro e w2 ⟨A2, cap2, rfl, h2, hb⟩; have S2 := Lib.hid (S1.out.step hb); have K2 := Lib.hid h2; clear hb h2))
    all_goals (go_wp2_with fail; go_meet; exact ⟨rfl, rfl, _, _, rfl, K2.out, S2.out⟩)
  case rest =>
  obtain ⟨rfl, rfl, AA, ca, rfl, ha, hs⟩ := hcut
  have S1 := Lib.hid hs
  have KA := Lib.hid ha
  clear hs ha S0
  obtain ⟨⟨p0, p1, p2, p3⟩, q0, q1, q2, q3⟩ := S1.out.cells
  go_wp2_with fail
  refine (lvB _ _ _ KA.out).mono ?_; rintro e w2 ⟨AB, cb, rfl, h2, hb⟩
  have S2 := Lib.hid (S1.out.step hb)
  have KB := Lib.hid h2
  clear hb h2 p0 p1 p2 p3 q0 q1 q2 q3 S1 KA
  go_wp2_with fail
  refine (lvG _ _ _ KB.out).mono ?_; rintro e w3 ⟨rfl, hb⟩
  have hb3 : Below w2.heap.size w2 (w3.alloc (.cells #[.int .i64 2, .int .i64 2, .int .i64 1, .int .i64 0] 25)) := hb.alloc hb.size _
  have S3 := Lib.hid (S2.out.step hb3)
  have KB3 := Lib.hid (KB.out.below hb3)
  have R3 := Lib.hid (Has.made w3 25 [.int .i64 2, .int .i64 2, .int .i64 1, .int .i64 0])
  clear hb hb3 S2 KB
  go_wp2_with fail
  refine (lvD _ _ _ KB3.out).mono ?_; rintro e w4 ⟨AC, cc, rfl, h4, hb⟩
  have S4 := Lib.hid (S3.out.step hb)
  have R4 := Lib.hid (hstep R3.out hb)
  have KC := Lib.hid h4
  clear hb h4 S3 R3 KB3
  go_wp2_with fail
  refine (lvG2 _ _ _ KC.out).mono ?_; rintro e w5 ⟨rfl, hb⟩
  have hb5 : Below w4.heap.size w4 (w5.alloc (.cells #[.int .i64 0, .int .i64 0, .int .i64 0, .int .i64 0] 25)) := hb.alloc hb.size _
  have S5 := Lib.hid (S4.out.step hb5)
  have R5 := Lib.hid (hstep R4.out hb5)
  have KC5 := Lib.hid (KC.out.below hb5)
  clear hb hb5 S4 R4 KC
  go_wp2_with fail
  refine (lvD2 _ _ _ KC5.out).mono ?_; rintro e w6 ⟨AD, cd, rfl, h6, hb⟩
  have S6 := Lib.hid (S5.out.step hb)
  have R6 := Lib.hid (hstep R5.out hb)
  have KC6 := Lib.hid (KC5.out.below hb)
  clear hb h6 S5 R5 KC5
  obtain ⟨⟨p0, p1, p2, p3⟩, q0, q1, q2, q3⟩ := S6.out.cells
  go_wp2_with fail
  refine (lvX _ _ _ KC6.out).mono ?_; rintro e w7 ⟨AX, cx, rfl, h7, hb⟩
  have S7 := Lib.hid (S6.out.step hb)
  have R7 := Lib.hid (hstep R6.out hb)
  have KC7 := Lib.hid (KC6.out.below hb)
  have KX := Lib.hid h7
  clear hb h7 S6 R6 KC6 p0 p1 p2 p3 q0 q1 q2 q3
  obtain ⟨⟨p0, p1, p2, p3⟩, q0, q1, q2, q3⟩ := S7.out.cells
  go_wp2_with fail
  refine (lvE _ _ _ KC7.out).mono ?_; rintro e w8 ⟨AE, ce, rfl, h8, hb⟩
  have S8 := Lib.hid (S7.out.step hb)
  have R8 := Lib.hid (hstep R7.out hb)
  have KC8 := Lib.hid (KC7.out.below hb)
  have KX8 := Lib.hid (KX.out.below hb)
  clear hb h8 S7 R7 KC7 KX p0 p1 p2 p3 q0 q1 q2 q3
  obtain ⟨⟨p0, p1, p2, p3⟩, q0, q1, q2, q3⟩ := S8.out.cells
  obtain ⟨r0, r1, r2, r3⟩ := hfour R8.out
  go_wp2_with fail
  refine (lvL _ _ _ KX8.out).mono ?_; rintro e w9 ⟨AL, cl, rfl, h9, hb⟩
  have hb9 : Below w8.heap.size w8 (w9.alloc (.cells #[.int .i64 3] 3)) := hb.alloc hb.size _
  have S9 := Lib.hid (S8.out.step hb9)
  have KC9 := Lib.hid (KC8.out.below hb9)
  have KX9 := Lib.hid (KX8.out.below hb9)
  have IQ := Lib.hid (Ints_eq AL (some ⟨w9.heap.size, 0, none⟩) 1 cl 1 (fun _ => 3) (w9.alloc (.cells #[.int .i64 3] 3)) (h9.below ((Below.refl _ _).alloc (Nat.le_refl _) _)) (fun _ => ⟨w9.heap.size, 0, rfl, (Has.made w9 3 [.int .i64 3]).lt, fun i hi => by
    obtain rfl : i = 0 := by omega
    exact (Has.made w9 3 [.int .i64 3]).cell 0⟩) (by decide))
  clear hb hb9 h9 S8 R8 KC8 KX8 p0 p1 p2 p3 q0 q1 q2 q3 r0 r1 r2 r3
  go_wp2_with fail
  refine IQ.out.mono ?_; rintro e wa ⟨rfl, hb⟩
  have Sa := Lib.hid (S9.out.step hb)
  have KCa := Lib.hid (KC9.out.below hb)
  have KXa := Lib.hid (KX9.out.below hb)
  clear hb S9 KC9 KX9 IQ
  go_wp2_with fail
  refine (lvL2 _ _ _ KCa.out).mono ?_; rintro e wb ⟨AM, cm, rfl, hb⟩
  have Sb := Lib.hid (Sa.out.step hb)
  have KXb := Lib.hid (KXa.out.below hb)
  clear hb Sa KCa KXa
  go_wp2_with fail
  refine (lvM _ _ _ KXb.out).mono ?_; rintro e wc ⟨rfl, hb⟩
  have Sc := Lib.hid (Sb.out.step hb)
  clear hb Sb KXb
  go_wp2_with fail
  refine (lvN _).mono ?_; rintro e wd ⟨rfl, hb⟩
  have Sd := Lib.hid (Sc.out.step hb)
  clear hb Sc
  go_wp2_with fail
  go_ret
  exact ⟨rfl, Sd.out.be⟩
end Go.Proofs.Ytgdcgilhaedbmac
