/- The contracts of ring's begun, and of what the document says was let in in a bucket. WRITTEN BY gen_rg1.py. -/
import Derived.Test.YtbmjpfcnagodaaaRg0
-- prune
namespace Go.Proofs.Ytbmjpfcnagodaaa
open Go.ChangeShapes Go.WideShapes Go.ChangeAt Go.RowKit
set_option linter.unusedVariables false

theorem PC.eight {w0 w : World} {k l v b a n : Int} {x y : Value} (h : PC w0 k l v b a n x y w) : w.cell? ⟨w0.heap.size, 0, none⟩ = some (.int .i64 k) ∧ w.cell? ⟨w0.heap.size, 1, none⟩ = some (.int .i64 l) ∧ w.cell? ⟨w0.heap.size, 2, none⟩ = some (.int .i64 v) ∧ w.cell? ⟨w0.heap.size, 3, none⟩ = some (.int .i64 b) ∧ w.cell? ⟨w0.heap.size + 1, 0, none⟩ = some (.int .i64 a) ∧ w.cell? ⟨w0.heap.size + 1, 1, none⟩ = some (.int .i64 n) ∧ w.cell? ⟨w0.heap.size + 1, 2, none⟩ = some x ∧ w.cell? ⟨w0.heap.size + 1, 3, none⟩ = some y :=
  ⟨h.p0, h.p1, h.p2, h.p3, h.c0, h.c1, h.c2, h.c3⟩
set_option maxRecDepth 100000 in
theorem begun_any (k l v b sl a n q : Int) (sa ha : Option Addr) (sn sc hn hc : Nat) (w : World) (h : RP k l v b sl) (a1 : 0 ≤ a) (a2 : a ≤ 1099511627776) (q1 : 0 ≤ q) (q2 : q ≤ 1048576) (r : Bool) (hr : decide (q ≤ a / sl) = r) :
    Calls Try.prog 38 #[.agg #[.int .i64 k, .int .i64 l, .int .i64 v, .int .i64 b], .agg #[.int .i64 a, .int .i64 n, .slice sa sn sc, .slice ha hn hc], .int .i64 q] w fun e w' => e = .returned (.bool r) ∧ Below w.heap.size w w' := by
  have SL := Lib.hid (fun u => slot_any u h)
  obtain ⟨_, _, v1, v2, b1, b2, s1, s2, _⟩ := h.bd
  obtain ⟨d0, d1⟩ := div_bd a1 s1
  have sz : (sl == 0) = false := by simp; omega
  have sn0 : ¬ sl = 0 := by omega
  have e1 : a.tdiv sl = a / sl := tdiv_i a1
  have e3 : IntKind.i64.wrap (a / sl) = a / sl := wrap_i (by omega) (by omega)
  have HP := Lib.hid (PC.made w k l v b a n (.slice sa sn sc) (.slice ha hn hc) 23 27).drew
  have HR := Lib.hid hr
  clear h hr
  go_enter Try.func38, Try.ntmps38
  go_wp2_with fail
  go_region_held3 (fun w' => w'.cell? ⟨w.heap.size, 0, none⟩ = some (.int .i64 k) ∧ w'.cell? ⟨w.heap.size, 1, none⟩ = some (.int .i64 l) ∧ w'.cell? ⟨w.heap.size, 2, none⟩ = some (.int .i64 v) ∧ w'.cell? ⟨w.heap.size, 3, none⟩ = some (.int .i64 b) ∧ w'.cell? ⟨w.heap.size + 1, 0, none⟩ = some (.int .i64 a) ∧ w'.cell? ⟨w.heap.size + 1, 1, none⟩ = some (.int .i64 n) ∧ w'.cell? ⟨w.heap.size + 1, 2, none⟩ = some (.slice sa sn sc) ∧ w'.cell? ⟨w.heap.size + 1, 3, none⟩ = some (.slice ha hn hc)) (first | (with_reducible exact HP.out.eight) | (with_reducible exact H1.out.eight) | go_keep) (first | (go_at_call 36; (with_reducible refine (SL.out _).mono ?_); rintro e w1 ⟨rfl, hb⟩; have H1 := Lib.hid (HP.out.step hb); clear hb))
  all_goals (go_wp2_with fail; go_ret; exact ⟨by rw [← HR.out]; rfl, H1.out.be⟩)

/-- What was let in in the bucket of a number. -/
def inV (b N : Int) (sn : Nat) (f : Nat → Int) (q : Int) : Int := if q < 0 ∨ N < q ∨ sn = 0 then 0 else f (q % b).toNat
set_option maxRecDepth 100000 in
theorem in_neg (k l v b sl a n q : Int) (sa ha : Option Addr) (sn sc hn hc : Nat) (w : World) (h : RP k l v b sl) (a1 : 0 ≤ a) (a2 : a ≤ 1099511627776) (h1 : q < 0) :
    Calls Try.prog 29 #[.agg #[.int .i64 k, .int .i64 l, .int .i64 v, .int .i64 b], .agg #[.int .i64 a, .int .i64 n, .slice sa sn sc, .slice ha hn hc], .int .i64 q] w fun e w' => e = .returned (.int .i64 0) ∧ Below w.heap.size w w' := by
  have HP := Lib.hid (PC.made w k l v b a n (.slice sa sn sc) (.slice ha hn hc) 23 27)
  go_enter Try.func29, Try.ntmps29
  go_wp2_with fail
  go_ret
  exact ⟨rfl, HP.out.be⟩
set_option maxRecDepth 100000 in
theorem in_hi (k l v b sl a n q : Int) (sa ha : Option Addr) (sn sc hn hc : Nat) (w : World) (h : RP k l v b sl) (a1 : 0 ≤ a) (a2 : a ≤ 1099511627776) (h1 : 0 ≤ q) (h2 : a / sl < q) :
    Calls Try.prog 29 #[.agg #[.int .i64 k, .int .i64 l, .int .i64 v, .int .i64 b], .agg #[.int .i64 a, .int .i64 n, .slice sa sn sc, .slice ha hn hc], .int .i64 q] w fun e w' => e = .returned (.int .i64 0) ∧ Below w.heap.size w w' := by
  have NB := Lib.hid (fun u => number_any k l v b sl a u h a1 (by omega))
  obtain ⟨_, _, v1, v2, b1, b2, s1, s2, _⟩ := h.bd
  obtain ⟨d0, d1⟩ := div_bd a1 s1
  have HP := Lib.hid (PC.made w k l v b a n (.slice sa sn sc) (.slice ha hn hc) 23 27)
  clear h
  generalize a / sl = N at *
  go_enter Try.func29, Try.ntmps29
  go_wp2_with fail
  refine (NB.out _).mono ?_; rintro e w1 ⟨rfl, hb⟩
  have H1 := Lib.hid (HP.out.step hb)
  clear hb
  obtain ⟨z0, z1, z2, z3, z4, z5, z6, z7⟩ := H1.out.eight
  go_wp2_with fail
  go_ret
  exact ⟨rfl, H1.out.be⟩
set_option maxRecDepth 100000 in
theorem in_nil (k l v b sl a n q : Int) (sa ha : Option Addr) (sn sc hn hc : Nat) (w : World) (h : RP k l v b sl) (a1 : 0 ≤ a) (a2 : a ≤ 1099511627776) (h1 : 0 ≤ q) (h2 : q ≤ a / sl) (hs : sn = 0) :
    Calls Try.prog 29 #[.agg #[.int .i64 k, .int .i64 l, .int .i64 v, .int .i64 b], .agg #[.int .i64 a, .int .i64 n, .slice sa sn sc, .slice ha hn hc], .int .i64 q] w fun e w' => e = .returned (.int .i64 0) ∧ Below w.heap.size w w' := by
  have NB := Lib.hid (fun u => number_any k l v b sl a u h a1 (by omega))
  obtain ⟨_, _, v1, v2, b1, b2, s1, s2, _⟩ := h.bd
  obtain ⟨d0, d1⟩ := div_bd a1 s1
  have HP := Lib.hid (PC.made w k l v b a n (.slice sa sn sc) (.slice ha hn hc) 23 27)
  subst hs
  clear h
  generalize a / sl = N at *
  go_enter Try.func29, Try.ntmps29
  go_wp2_with fail
  refine (NB.out _).mono ?_; rintro e w1 ⟨rfl, hb⟩
  have H1 := Lib.hid (HP.out.step hb)
  clear hb
  obtain ⟨z0, z1, z2, z3, z4, z5, z6, z7⟩ := H1.out.eight
  go_wp2_with fail
  go_ret
  exact ⟨rfl, H1.out.be⟩
set_option maxRecDepth 100000 in
theorem in_at (k l v b sl a n q : Int) (sa ha : Option Addr) (sn sc hn hc : Nat) (w : World) (h : RP k l v b sl) (a1 : 0 ≤ a) (a2 : a ≤ 1099511627776) (f : Nat → Int) (h1 : 0 ≤ q) (h2 : q ≤ a / sl) (hs : (sn : Int) = b) (hf : SumsAt w sa sn f) :
    Calls Try.prog 29 #[.agg #[.int .i64 k, .int .i64 l, .int .i64 v, .int .i64 b], .agg #[.int .i64 a, .int .i64 n, .slice sa sn sc, .slice ha hn hc], .int .i64 q] w fun e w' => e = .returned (.int .i64 (f (q % b).toNat)) ∧ Below w.heap.size w w' := by
  have NB := Lib.hid (fun u => number_any k l v b sl a u h a1 (by omega))
  obtain ⟨_, _, v1, v2, b1, b2, s1, s2, _⟩ := h.bd
  obtain ⟨d0, d1⟩ := div_bd a1 s1
  have HP := Lib.hid (PC.made w k l v b a n (.slice sa sn sc) (.slice ha hn hc) 23 27)
  have m0 : 0 ≤ q % b := Int.emod_nonneg _ (by omega)
  have m1 : q % b < b := Int.emod_lt_of_pos _ (by omega)
  obtain ⟨g1, o1, rfl, hl, hc⟩ := hf (by omega)
  obtain ⟨r, hr⟩ : ∃ r : Nat, q % b = (r : Int) := ⟨(q % b).toNat, by omega⟩
  have X := Lib.hid (hc r (by omega))
  have E := Lib.hid (show f r = f (q % b).toNat by rw [hr]; rfl)
  have e1 : q.tmod b = (r : Int) := by rw [tmod_i h1]; exact hr
  have e2 : IntKind.i64.wrap (r : Int) = (r : Int) := wrap_i (by omega) (by omega)
  have bz : (b == 0) = false := by simp; omega
  have sz : ((sn : Int) == 0) = false := by simp; omega
  have B0 : (0 : Int) ≤ (r : Int) := by omega
  have B1 : (r : Int) < (sn : Int) := by omega
  have B2 : r < sn := by omega
  clear hc hr m0 m1 hf
  clear h
  generalize a / sl = N at *
  go_enter Try.func29, Try.ntmps29
  go_wp2_with fail
  refine (NB.out _).mono ?_; rintro e w1 ⟨rfl, hb⟩
  have H1 := Lib.hid (HP.out.step hb)
  have x0 := ((H1.out.be).cell (p := ⟨g1, o1 + r, none⟩) hl).trans X.out
  clear hb
  obtain ⟨z0, z1, z2, z3, z4, z5, z6, z7⟩ := H1.out.eight
  go_wp2_with fail
  go_quiet (fail)
  go_wp2_with fail
  go_ret
  exact ⟨ret_int E.out, below_drewN H1.out.be _⟩
theorem in_any (k l v b sl a n q : Int) (sa ha : Option Addr) (sn sc hn hc : Nat) (w : World) (h : RP k l v b sl) (a1 : 0 ≤ a) (a2 : a ≤ 1099511627776) (f : Nat → Int) (hs : sn = 0 ∨ (sn : Int) = b) (hf : SumsAt w sa sn f) :
    Calls Try.prog 29 #[.agg #[.int .i64 k, .int .i64 l, .int .i64 v, .int .i64 b], .agg #[.int .i64 a, .int .i64 n, .slice sa sn sc, .slice ha hn hc], .int .i64 q] w fun e w' => e = .returned (.int .i64 (inV b (a / sl) sn f q)) ∧ Below w.heap.size w w' := by
  unfold inV
  by_cases h1 : q < 0
  · rw [if_pos (.inl h1)]; exact in_neg k l v b sl a n q sa ha sn sc hn hc w h a1 a2 h1
  · by_cases h2 : a / sl < q
    · rw [if_pos (.inr (.inl h2))]; exact in_hi k l v b sl a n q sa ha sn sc hn hc w h a1 a2 (by omega) h2
    · by_cases h3 : sn = 0
      · rw [if_pos (.inr (.inr h3))]; exact in_nil k l v b sl a n q sa ha sn sc hn hc w h a1 a2 (by omega) (by omega) h3
      · rw [if_neg (by omega)]
        exact in_at k l v b sl a n q sa ha sn sc hn hc w h a1 a2 f (by omega) (by omega) (hs.resolve_left h3) hf
end Go.Proofs.Ytbmjpfcnagodaaa
