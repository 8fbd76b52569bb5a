/- What the statements' own live tells. WRITTEN BY gen_exLive.py. -/
import Derived.Test.YtgdcgilhaedbmaaEx13
namespace Go.Proofs.Ytgdcgilhaedbmaa
open Go.ChangeShapes Go.WideShapes Go.ChangeAt Go.RowKit
set_option linter.unusedVariables false

theorem lvP : EP 4 2 10 0 := ⟨by decide, rfl⟩
instance (l v a : Int) (n : Nat) (f g : Nat → Int) : Decidable (MayHits l v a n f g) :=
  if h1 : ∀ i, i < n → 0 ≤ f i ∧ a - v < f i ∧ f i ≤ a ∧ 1 ≤ g i ∧ g i ≤ l then if h2 : ∀ i, i < n - 1 → f i < f (i + 1) then if h3 : sumF g n ≤ l then isTrue ⟨h1, fun i hi => h2 i (by omega), h3⟩ else isFalse (fun h => h3 h.all) else isFalse (fun h => h2 (fun i hi => h.rise i (by omega))) else isFalse (fun h => h1 h.each)
theorem tellsH_eq {P : Nat} {args : Array Value} {w : World} {T T' : Int} {L L' : Nat} {x F G F' G' : Nat → Int} {al al' : Bool} {rm rt rs rm' rt' rs' : Int} (h : Calls Try.prog P args w (TellsH T 0 0 x L F G al rm rt rs w)) (eT : T = T') (eL : L = L') (e0 : ∀ i, i < L → F i = F' i ∧ G i = G' i) (e1 : al = al') (e2 : rm = rm') (e3 : rt = rt') (e4 : rs = rs') : Calls Try.prog P args w (TellsH T' 0 0 x L' F' G' al' rm' rt' rs' w) := by
  subst eT eL e1 e2 e3 e4
  exact h.mono (fun _ _ q => q.congr (fun i hi => rfl) e0)
theorem lv0 (w : World) (sa ha : Option Addr) (sc hc : Nat) (q1 : 0 ≤ hc) (q2 : hc ≤ maxLen) (hf : HitsAt w ha 0 (fun _ => 0) (fun _ => 0)) : Calls Try.prog 10 #[.agg #[.int .i64 4, .int .i64 2, .int .i64 10, .int .i64 0], .agg #[.int .i64 0, .int .i64 0, .slice sa 0 sc, .slice ha 0 hc], .int .i64 5, .int .i64 1] w (TellsH 5 0 0 (fun _ => 0) 1 (fun i => ([5] : List Int).getD i 0) (fun i => ([1] : List Int).getD i 0) true 1 0 10 w) :=
  tellsH_eq ((Ask_E0 lvP (by decide) (by decide) (by decide +kernel) w hf q1 q2 (by decide) (by decide) (by decide) (by decide)).mono (fun _ _ q => q.tellsH _)) (by decide +kernel) (by decide +kernel) (by decide +kernel) (by decide +kernel) (by decide +kernel) (by decide +kernel) (by decide +kernel)
theorem lv1 (w : World) (sa ha : Option Addr) (sc hc : Nat) (q1 : 1 ≤ hc) (q2 : hc ≤ maxLen) (hf : HitsAt w ha 1 (fun i => ([5] : List Int).getD i 0) (fun i => ([1] : List Int).getD i 0)) : Calls Try.prog 10 #[.agg #[.int .i64 4, .int .i64 2, .int .i64 10, .int .i64 0], .agg #[.int .i64 5, .int .i64 0, .slice sa 0 sc, .slice ha 1 hc], .int .i64 8, .int .i64 1] w (TellsH 8 0 0 (fun _ => 0) 2 (fun i => ([5, 8] : List Int).getD i 0) (fun i => ([1, 1] : List Int).getD i 0) true 0 0 10 w) :=
  tellsH_eq ((Ask_E0 lvP (by decide) (by decide) (by decide +kernel) w hf q1 q2 (by decide) (by decide) (by decide) (by decide)).mono (fun _ _ q => q.tellsH _)) (by decide +kernel) (by decide +kernel) (by decide +kernel) (by decide +kernel) (by decide +kernel) (by decide +kernel) (by decide +kernel)
theorem lv2 (w : World) (sa ha : Option Addr) (sc hc : Nat) (q1 : 2 ≤ hc) (q2 : hc ≤ maxLen) (hf : HitsAt w ha 2 (fun i => ([5, 8] : List Int).getD i 0) (fun i => ([1, 1] : List Int).getD i 0)) : Calls Try.prog 10 #[.agg #[.int .i64 4, .int .i64 2, .int .i64 10, .int .i64 0], .agg #[.int .i64 8, .int .i64 0, .slice sa 0 sc, .slice ha 2 hc], .int .i64 14, .int .i64 1] w (TellsH 14 0 0 (fun _ => 0) 2 (fun i => ([5, 8] : List Int).getD i 0) (fun i => ([1, 1] : List Int).getD i 0) false 0 1 4 w) :=
  tellsH_eq ((Ask_E0 lvP (by decide) (by decide) (by decide +kernel) w hf q1 q2 (by decide) (by decide) (by decide) (by decide)).mono (fun _ _ q => q.tellsH _)) (by decide +kernel) (by decide +kernel) (by decide +kernel) (by decide +kernel) (by decide +kernel) (by decide +kernel) (by decide +kernel)
theorem lv3 (w : World) (sa ha : Option Addr) (sc hc : Nat) (q1 : 2 ≤ hc) (q2 : hc ≤ maxLen) (hf : HitsAt w ha 2 (fun i => ([5, 8] : List Int).getD i 0) (fun i => ([1, 1] : List Int).getD i 0)) : Calls Try.prog 10 #[.agg #[.int .i64 4, .int .i64 2, .int .i64 10, .int .i64 0], .agg #[.int .i64 14, .int .i64 0, .slice sa 0 sc, .slice ha 2 hc], .int .i64 15, .int .i64 1] w (TellsH 15 0 0 (fun _ => 0) 2 (fun i => ([8, 15] : List Int).getD i 0) (fun i => ([1, 1] : List Int).getD i 0) true 0 0 10 w) :=
  tellsH_eq ((Ask_E0 lvP (by decide) (by decide) (by decide +kernel) w hf q1 q2 (by decide) (by decide) (by decide) (by decide)).mono (fun _ _ q => q.tellsH _)) (by decide +kernel) (by decide +kernel) (by decide +kernel) (by decide +kernel) (by decide +kernel) (by decide +kernel) (by decide +kernel)
theorem lv4 (w : World) (sa ha : Option Addr) (sc hc : Nat) (q1 : 2 ≤ hc) (q2 : hc ≤ maxLen) (hf : HitsAt w ha 2 (fun i => ([8, 15] : List Int).getD i 0) (fun i => ([1, 1] : List Int).getD i 0)) : Calls Try.prog 10 #[.agg #[.int .i64 4, .int .i64 2, .int .i64 10, .int .i64 0], .agg #[.int .i64 15, .int .i64 0, .slice sa 0 sc, .slice ha 2 hc], .int .i64 15, .int .i64 3] w (TellsH 15 0 0 (fun _ => 0) 2 (fun i => ([8, 15] : List Int).getD i 0) (fun i => ([1, 1] : List Int).getD i 0) false 0 2199023255552 10 w) :=
  tellsH_eq ((Ask_E0 lvP (by decide) (by decide) (by decide +kernel) w hf q1 q2 (by decide) (by decide) (by decide) (by decide)).mono (fun _ _ q => q.tellsH _)) (by decide +kernel) (by decide +kernel) (by decide +kernel) (by decide +kernel) (by decide +kernel) (by decide +kernel) (by decide +kernel)
theorem lvZ (w : World) (sa ha : Option Addr) (sc hc : Nat) (q1 : 2 ≤ hc) (q2 : hc ≤ maxLen) (hf : HitsAt w ha 2 (fun i => ([8, 15] : List Int).getD i 0) (fun i => ([1, 1] : List Int).getD i 0)) : Calls Try.prog 10 #[.agg #[.int .i64 0, .int .i64 0, .int .i64 0, .int .i64 0], .agg #[.int .i64 15, .int .i64 0, .slice sa 0 sc, .slice ha 2 hc], .int .i64 15, .int .i64 1] w fun e w' => e = .returned (.tuple #[.agg #[.int .i64 15, .int .i64 0, .slice sa 0 sc, .slice ha 2 hc], .agg #[.bool false, .int .i64 0, .int .i64 0, .int .i64 0]]) ∧ Below w.heap.size w w' :=
  Ask_n0 0 0 0 0 15 0 sa ha 0 sc 2 hc _ _ 15 1 w (fun h => absurd h.p.p (by decide)) (by decide) (by decide) hf
theorem lvL (w : World) (sa ha : Option Addr) (sc hc : Nat) (q1 : 2 ≤ hc) (q2 : hc ≤ maxLen) (hf : HitsAt w ha 2 (fun i => ([5, 8] : List Int).getD i 0) (fun i => ([1, 1] : List Int).getD i 0)) : Calls Try.prog 15 #[.agg #[.int .i64 4, .int .i64 2, .int .i64 10, .int .i64 0], .agg #[.int .i64 8, .int .i64 0, .slice sa 0 sc, .slice ha 2 hc], .int .i64 15] w fun e w' => e = .returned (.int .i64 1) ∧ Below w.heap.size w w' := calls_eqB (Total_T 4 2 10 0 8 sa ha sc 2 hc _ _ 15 15 w lvP (by decide) (by decide) (by decide +kernel) hf q1 q2 (by decide) (by decide) (by decide)) (by kernel_rfl)
theorem lvL2 (w : World) (sa ha : Option Addr) (sc hc : Nat) (q1 : 2 ≤ hc) (q2 : hc ≤ maxLen) (hf : HitsAt w ha 2 (fun i => ([5, 8] : List Int).getD i 0) (fun i => ([1, 1] : List Int).getD i 0)) : Calls Try.prog 15 #[.agg #[.int .i64 4, .int .i64 2, .int .i64 10, .int .i64 0], .agg #[.int .i64 8, .int .i64 0, .slice sa 0 sc, .slice ha 2 hc], .int .i64 18] w fun e w' => e = .returned (.int .i64 0) ∧ Below w.heap.size w w' := calls_eqB (Total_T 4 2 10 0 8 sa ha sc 2 hc _ _ 18 18 w lvP (by decide) (by decide) (by decide +kernel) hf q1 q2 (by decide) (by decide) (by decide)) (by kernel_rfl)
theorem lvE (w : World) (sa ha : Option Addr) (sc hc : Nat) (q1 : 2 ≤ hc) (q2 : hc ≤ maxLen) (hf : HitsAt w ha 2 (fun i => ([5, 8] : List Int).getD i 0) (fun i => ([1, 1] : List Int).getD i 0)) : Calls Try.prog 17 #[.agg #[.int .i64 4, .int .i64 2, .int .i64 10, .int .i64 0], .agg #[.int .i64 8, .int .i64 0, .slice sa 0 sc, .slice ha 2 hc]] w fun e w' => e = .returned (.int .i64 18) ∧ Below w.heap.size w w' := calls_eqB (Ends_yes 4 2 10 0 8 sa ha sc 2 hc _ _ w lvP (by decide) (by decide) (by decide +kernel) hf) (by kernel_rfl)
theorem lvM (w : World) (sa ha : Option Addr) (sc hc : Nat) (q1 : 2 ≤ hc) (q2 : hc ≤ maxLen) (hf : HitsAt w ha 2 (fun i => ([5, 8] : List Int).getD i 0) (fun i => ([1, 1] : List Int).getD i 0)) : Calls Try.prog 13 #[.agg #[.int .i64 4, .int .i64 2, .int .i64 10, .int .i64 0], .agg #[.int .i64 8, .int .i64 0, .slice sa 0 sc, .slice ha 2 hc]] w fun e w' => e = .returned (.bool true) ∧ Below w.heap.size w w' := May_yes 4 2 10 0 8 sa ha sc 2 hc _ _ w lvP (by decide) (by decide) hf (by decide) (by decide +kernel)
theorem lvN (w : World) : Calls Try.prog 13 #[.agg #[.int .i64 4, .int .i64 2, .int .i64 10, .int .i64 0], .agg #[.int .i64 0, .int .i64 0, .slice none 0 0, .slice (some ⟨w.heap.size, 0, none⟩) 1 1]] (w.alloc (.cells #[.int .i64 0, .int .i64 0] 50)) fun e w' => e = .returned (.bool false) ∧ Below (w.alloc (.cells #[.int .i64 0, .int .i64 0] 50)).heap.size (w.alloc (.cells #[.int .i64 0, .int .i64 0] 50)) w' :=
  May_no 4 2 10 0 0 0 _ _ 0 0 1 1 _ (fun _ => 0) (fun _ => 0) (fun h => absurd (h.h.each 0 (by decide)).2.2.2.1 (by decide)) (by decide) (by decide) (fun _ => ⟨w.heap.size, 0, rfl, (Has.made w 50 [.int .i64 0, .int .i64 0]).lt, fun i hi => by
      obtain rfl : i = 0 := by omega
      exact ⟨(Has.made w 50 [.int .i64 0, .int .i64 0]).cell 0, (Has.made w 50 [.int .i64 0, .int .i64 0]).cell 1⟩⟩)
theorem below_two (w : World) (o o' : Obj) : Below w.heap.size w ((w.alloc o).alloc o') := ((Below.refl _ _).alloc (Nat.le_refl _) _).alloc (by simp) _
set_option maxRecDepth 100000 in
set_option maxHeartbeats 4000000 in
theorem live_any (w : World) : Calls Try.prog 9 #[] w fun e w' => e = .returned (.bool true) ∧ Below w.heap.size w w' := by
  have p0 := Lib.hid (Has.made w 23 [.int .i64 4, .int .i64 2, .int .i64 10, .int .i64 0])
  have B0 := Lib.hid ((Below.refl w.heap.size w).alloc (Nat.le_refl _) (.cells #[.int .i64 4, .int .i64 2, .int .i64 10, .int .i64 0] 23))
  go_enter Try.func9, Try.ntmps9
  obtain ⟨kp0, kp1, kp2, kp3⟩ := p0.out.four
  go_wp2_with fail
  refine (lv0 _ _ _ _ _ (Nat.zero_le _) (Nat.zero_le _) (HitsAt.nil _ _ _ _)).mono ?_; rintro e w1 ⟨ee0, da, nn0, mm0, hcap, rfl, hs, hh, hb⟩
  clear kp0 kp1 kp2 kp3
  have HS := Lib.hid hh
  have C0 := Lib.hid hcap
  obtain ⟨aa0, oo0, rfl, hl, hx⟩ := hh (by decide)
  clear hs hl hx hcap
  have p1 := Lib.hid (((p0.out.step hb).alloc (.cells #[.int .i64 5, .int .i64 0, .slice ee0 0 nn0, .slice (some ⟨aa0, oo0, none⟩) 1 mm0] 27)).alloc (.cells #[.bool true, .int .i64 1, .int .i64 0, .int .i64 10] 32))
  have B1 := Lib.hid (Below.two (B0.out.trans (hb.mono B0.out.size)) (.cells #[.int .i64 5, .int .i64 0, .slice ee0 0 nn0, .slice (some ⟨aa0, oo0, none⟩) 1 mm0] 27) (.cells #[.bool true, .int .i64 1, .int .i64 0, .int .i64 10] 32))
  have c1 := Lib.hid (made1 w1 27 [.int .i64 5, .int .i64 0, .slice ee0 0 nn0, .slice (some ⟨aa0, oo0, none⟩) 1 mm0] (.cells #[.bool true, .int .i64 1, .int .i64 0, .int .i64 10] 32))
  have u1 := Lib.hid (made2 w1 32 27 [.bool true, .int .i64 1, .int .i64 0, .int .i64 10] (.cells #[.int .i64 5, .int .i64 0, .slice ee0 0 nn0, .slice (some ⟨aa0, oo0, none⟩) 1 mm0] 27))
  have Sc1 := Lib.hid (HS.out.below (below_two w1 (.cells #[.int .i64 5, .int .i64 0, .slice ee0 0 nn0, .slice (some ⟨aa0, oo0, none⟩) 1 mm0] 27) (.cells #[.bool true, .int .i64 1, .int .i64 0, .int .i64 10] 32)))
  clear hb p0  B0
  clear HS
  obtain ⟨kp0, kp1, kp2, kp3⟩ := p1.out.four
  obtain ⟨kc0, kc1, kc2, kc3⟩ := c1.out.four
  go_wp2_with fail
  refine (lv1 _ _ _ _ _ C0.out.1 C0.out.2 Sc1.out).mono ?_; rintro e w2 ⟨ee1, da, nn1, mm1, hcap, rfl, hs, hh, hb⟩
  clear kp0 kp1 kp2 kp3 kc0 kc1 kc2 kc3
  have HS := Lib.hid hh
  have C1 := Lib.hid hcap
  obtain ⟨aa1, oo1, rfl, hl, hx⟩ := hh (by decide)
  clear hs hl hx hcap
  have p2 := Lib.hid (((p1.out.step hb).alloc (.cells #[.int .i64 8, .int .i64 0, .slice ee1 0 nn1, .slice (some ⟨aa1, oo1, none⟩) 2 mm1] 27)).alloc (.cells #[.bool true, .int .i64 0, .int .i64 0, .int .i64 10] 32))
  have c2 := Lib.hid (((c1.out.step hb).alloc (.cells #[.int .i64 8, .int .i64 0, .slice ee1 0 nn1, .slice (some ⟨aa1, oo1, none⟩) 2 mm1] 27)).alloc (.cells #[.bool true, .int .i64 0, .int .i64 0, .int .i64 10] 32))
  have u2 := Lib.hid (((u1.out.step hb).alloc (.cells #[.int .i64 8, .int .i64 0, .slice ee1 0 nn1, .slice (some ⟨aa1, oo1, none⟩) 2 mm1] 27)).alloc (.cells #[.bool true, .int .i64 0, .int .i64 0, .int .i64 10] 32))
  have Sc2 := Lib.hid ((Sc1.out.below hb).below (below_two w2 (.cells #[.int .i64 8, .int .i64 0, .slice ee1 0 nn1, .slice (some ⟨aa1, oo1, none⟩) 2 mm1] 27) (.cells #[.bool true, .int .i64 0, .int .i64 0, .int .i64 10] 32)))
  have B2 := Lib.hid (Below.two (B1.out.trans (hb.mono B1.out.size)) (.cells #[.int .i64 8, .int .i64 0, .slice ee1 0 nn1, .slice (some ⟨aa1, oo1, none⟩) 2 mm1] 27) (.cells #[.bool true, .int .i64 0, .int .i64 0, .int .i64 10] 32))
  have d2 := Lib.hid (made1 w2 27 [.int .i64 8, .int .i64 0, .slice ee1 0 nn1, .slice (some ⟨aa1, oo1, none⟩) 2 mm1] (.cells #[.bool true, .int .i64 0, .int .i64 0, .int .i64 10] 32))
  have v2 := Lib.hid (made2 w2 32 27 [.bool true, .int .i64 0, .int .i64 0, .int .i64 10] (.cells #[.int .i64 8, .int .i64 0, .slice ee1 0 nn1, .slice (some ⟨aa1, oo1, none⟩) 2 mm1] 27))
  have Sd2 := Lib.hid (HS.out.below (below_two w2 (.cells #[.int .i64 8, .int .i64 0, .slice ee1 0 nn1, .slice (some ⟨aa1, oo1, none⟩) 2 mm1] 27) (.cells #[.bool true, .int .i64 0, .int .i64 0, .int .i64 10] 32)))
  clear hb p1 c1 u1 Sc1 B1
  clear HS
  obtain ⟨kp0, kp1, kp2, kp3⟩ := p2.out.four
  obtain ⟨kd0, kd1, kd2, kd3⟩ := d2.out.four
  go_wp2_with fail
  refine (lv2 _ _ _ _ _ C1.out.1 C1.out.2 Sd2.out).mono ?_; rintro e w3 ⟨ee2, da, nn2, mm2, hcap, rfl, hs, hh, hb⟩
  clear kp0 kp1 kp2 kp3 kd0 kd1 kd2 kd3
  have HS := Lib.hid hh
  have C2 := Lib.hid hcap
  obtain ⟨aa2, oo2, rfl, hl, hx⟩ := hh (by decide)
  clear hs hl hx hcap
  have p3 := Lib.hid (((p2.out.step hb).alloc (.cells #[.int .i64 14, .int .i64 0, .slice ee2 0 nn2, .slice (some ⟨aa2, oo2, none⟩) 2 mm2] 27)).alloc (.cells #[.bool false, .int .i64 0, .int .i64 1, .int .i64 4] 32))
  have c3 := Lib.hid (((c2.out.step hb).alloc (.cells #[.int .i64 14, .int .i64 0, .slice ee2 0 nn2, .slice (some ⟨aa2, oo2, none⟩) 2 mm2] 27)).alloc (.cells #[.bool false, .int .i64 0, .int .i64 1, .int .i64 4] 32))
  have u3 := Lib.hid (((u2.out.step hb).alloc (.cells #[.int .i64 14, .int .i64 0, .slice ee2 0 nn2, .slice (some ⟨aa2, oo2, none⟩) 2 mm2] 27)).alloc (.cells #[.bool false, .int .i64 0, .int .i64 1, .int .i64 4] 32))
  have d3 := Lib.hid (((d2.out.step hb).alloc (.cells #[.int .i64 14, .int .i64 0, .slice ee2 0 nn2, .slice (some ⟨aa2, oo2, none⟩) 2 mm2] 27)).alloc (.cells #[.bool false, .int .i64 0, .int .i64 1, .int .i64 4] 32))
  have v3 := Lib.hid (((v2.out.step hb).alloc (.cells #[.int .i64 14, .int .i64 0, .slice ee2 0 nn2, .slice (some ⟨aa2, oo2, none⟩) 2 mm2] 27)).alloc (.cells #[.bool false, .int .i64 0, .int .i64 1, .int .i64 4] 32))
  have Sc3 := Lib.hid ((Sc2.out.below hb).below (below_two w3 (.cells #[.int .i64 14, .int .i64 0, .slice ee2 0 nn2, .slice (some ⟨aa2, oo2, none⟩) 2 mm2] 27) (.cells #[.bool false, .int .i64 0, .int .i64 1, .int .i64 4] 32)))
  have Sd3 := Lib.hid ((Sd2.out.below hb).below (below_two w3 (.cells #[.int .i64 14, .int .i64 0, .slice ee2 0 nn2, .slice (some ⟨aa2, oo2, none⟩) 2 mm2] 27) (.cells #[.bool false, .int .i64 0, .int .i64 1, .int .i64 4] 32)))
  have B3 := Lib.hid (Below.two (B2.out.trans (hb.mono B2.out.size)) (.cells #[.int .i64 14, .int .i64 0, .slice ee2 0 nn2, .slice (some ⟨aa2, oo2, none⟩) 2 mm2] 27) (.cells #[.bool false, .int .i64 0, .int .i64 1, .int .i64 4] 32))
  have e3 := Lib.hid (made1 w3 27 [.int .i64 14, .int .i64 0, .slice ee2 0 nn2, .slice (some ⟨aa2, oo2, none⟩) 2 mm2] (.cells #[.bool false, .int .i64 0, .int .i64 1, .int .i64 4] 32))
  have x3 := Lib.hid (made2 w3 32 27 [.bool false, .int .i64 0, .int .i64 1, .int .i64 4] (.cells #[.int .i64 14, .int .i64 0, .slice ee2 0 nn2, .slice (some ⟨aa2, oo2, none⟩) 2 mm2] 27))
  have Se3 := Lib.hid (HS.out.below (below_two w3 (.cells #[.int .i64 14, .int .i64 0, .slice ee2 0 nn2, .slice (some ⟨aa2, oo2, none⟩) 2 mm2] 27) (.cells #[.bool false, .int .i64 0, .int .i64 1, .int .i64 4] 32)))
  clear hb p2 c2 u2 d2 v2 Sc2 Sd2 B2
  clear HS
  obtain ⟨kp0, kp1, kp2, kp3⟩ := p3.out.four
  obtain ⟨ke0, ke1, ke2, ke3⟩ := e3.out.four
  go_wp2_with fail
  refine (lv3 _ _ _ _ _ C2.out.1 C2.out.2 Se3.out).mono ?_; rintro e w4 ⟨ee3, da, nn3, mm3, hcap, rfl, hs, hh, hb⟩
  clear kp0 kp1 kp2 kp3 ke0 ke1 ke2 ke3
  have HS := Lib.hid hh
  have C3 := Lib.hid hcap
  obtain ⟨aa3, oo3, rfl, hl, hx⟩ := hh (by decide)
  clear hs hl hx hcap
  have p4 := Lib.hid (((p3.out.step hb).alloc (.cells #[.int .i64 15, .int .i64 0, .slice ee3 0 nn3, .slice (some ⟨aa3, oo3, none⟩) 2 mm3] 27)).alloc (.cells #[.bool true, .int .i64 0, .int .i64 0, .int .i64 10] 32))
  have c4 := Lib.hid (((c3.out.step hb).alloc (.cells #[.int .i64 15, .int .i64 0, .slice ee3 0 nn3, .slice (some ⟨aa3, oo3, none⟩) 2 mm3] 27)).alloc (.cells #[.bool true, .int .i64 0, .int .i64 0, .int .i64 10] 32))
  have u4 := Lib.hid (((u3.out.step hb).alloc (.cells #[.int .i64 15, .int .i64 0, .slice ee3 0 nn3, .slice (some ⟨aa3, oo3, none⟩) 2 mm3] 27)).alloc (.cells #[.bool true, .int .i64 0, .int .i64 0, .int .i64 10] 32))
  have d4 := Lib.hid (((d3.out.step hb).alloc (.cells #[.int .i64 15, .int .i64 0, .slice ee3 0 nn3, .slice (some ⟨aa3, oo3, none⟩) 2 mm3] 27)).alloc (.cells #[.bool true, .int .i64 0, .int .i64 0, .int .i64 10] 32))
  have v4 := Lib.hid (((v3.out.step hb).alloc (.cells #[.int .i64 15, .int .i64 0, .slice ee3 0 nn3, .slice (some ⟨aa3, oo3, none⟩) 2 mm3] 27)).alloc (.cells #[.bool true, .int .i64 0, .int .i64 0, .int .i64 10] 32))
  have e4 := Lib.hid (((e3.out.step hb).alloc (.cells #[.int .i64 15, .int .i64 0, .slice ee3 0 nn3, .slice (some ⟨aa3, oo3, none⟩) 2 mm3] 27)).alloc (.cells #[.bool true, .int .i64 0, .int .i64 0, .int .i64 10] 32))
  have x4 := Lib.hid (((x3.out.step hb).alloc (.cells #[.int .i64 15, .int .i64 0, .slice ee3 0 nn3, .slice (some ⟨aa3, oo3, none⟩) 2 mm3] 27)).alloc (.cells #[.bool true, .int .i64 0, .int .i64 0, .int .i64 10] 32))
  have Sc4 := Lib.hid ((Sc3.out.below hb).below (below_two w4 (.cells #[.int .i64 15, .int .i64 0, .slice ee3 0 nn3, .slice (some ⟨aa3, oo3, none⟩) 2 mm3] 27) (.cells #[.bool true, .int .i64 0, .int .i64 0, .int .i64 10] 32)))
  have Sd4 := Lib.hid ((Sd3.out.below hb).below (below_two w4 (.cells #[.int .i64 15, .int .i64 0, .slice ee3 0 nn3, .slice (some ⟨aa3, oo3, none⟩) 2 mm3] 27) (.cells #[.bool true, .int .i64 0, .int .i64 0, .int .i64 10] 32)))
  have Se4 := Lib.hid ((Se3.out.below hb).below (below_two w4 (.cells #[.int .i64 15, .int .i64 0, .slice ee3 0 nn3, .slice (some ⟨aa3, oo3, none⟩) 2 mm3] 27) (.cells #[.bool true, .int .i64 0, .int .i64 0, .int .i64 10] 32)))
  have B4 := Lib.hid (Below.two (B3.out.trans (hb.mono B3.out.size)) (.cells #[.int .i64 15, .int .i64 0, .slice ee3 0 nn3, .slice (some ⟨aa3, oo3, none⟩) 2 mm3] 27) (.cells #[.bool true, .int .i64 0, .int .i64 0, .int .i64 10] 32))
  have f4 := Lib.hid (made1 w4 27 [.int .i64 15, .int .i64 0, .slice ee3 0 nn3, .slice (some ⟨aa3, oo3, none⟩) 2 mm3] (.cells #[.bool true, .int .i64 0, .int .i64 0, .int .i64 10] 32))
  have z4 := Lib.hid (made2 w4 32 27 [.bool true, .int .i64 0, .int .i64 0, .int .i64 10] (.cells #[.int .i64 15, .int .i64 0, .slice ee3 0 nn3, .slice (some ⟨aa3, oo3, none⟩) 2 mm3] 27))
  have Sf4 := Lib.hid (HS.out.below (below_two w4 (.cells #[.int .i64 15, .int .i64 0, .slice ee3 0 nn3, .slice (some ⟨aa3, oo3, none⟩) 2 mm3] 27) (.cells #[.bool true, .int .i64 0, .int .i64 0, .int .i64 10] 32)))
  clear hb p3 c3 u3 d3 v3 e3 x3 Sc3 Sd3 Se3 B3
  clear HS
  obtain ⟨kp0, kp1, kp2, kp3⟩ := p4.out.four
  obtain ⟨kf0, kf1, kf2, kf3⟩ := f4.out.four
  go_wp2_with fail
  refine (lv4 _ _ _ _ _ C3.out.1 C3.out.2 Sf4.out).mono ?_; rintro e w5 ⟨ee4, da, nn4, mm4, hcap, rfl, hs, hh, hb⟩
  clear kp0 kp1 kp2 kp3 kf0 kf1 kf2 kf3
  have HS := Lib.hid hh
  have C4 := Lib.hid hcap
  obtain ⟨aa4, oo4, rfl, hl, hx⟩ := hh (by decide)
  clear hs hl hx hcap
  have p5 := Lib.hid (((p4.out.step hb).alloc (.cells #[.int .i64 15, .int .i64 0, .slice ee4 0 nn4, .slice (some ⟨aa4, oo4, none⟩) 2 mm4] 27)).alloc (.cells #[.bool false, .int .i64 0, .int .i64 2199023255552, .int .i64 10] 32))
  have c5 := Lib.hid (((c4.out.step hb).alloc (.cells #[.int .i64 15, .int .i64 0, .slice ee4 0 nn4, .slice (some ⟨aa4, oo4, none⟩) 2 mm4] 27)).alloc (.cells #[.bool false, .int .i64 0, .int .i64 2199023255552, .int .i64 10] 32))
  have u5 := Lib.hid (((u4.out.step hb).alloc (.cells #[.int .i64 15, .int .i64 0, .slice ee4 0 nn4, .slice (some ⟨aa4, oo4, none⟩) 2 mm4] 27)).alloc (.cells #[.bool false, .int .i64 0, .int .i64 2199023255552, .int .i64 10] 32))
  have d5 := Lib.hid (((d4.out.step hb).alloc (.cells #[.int .i64 15, .int .i64 0, .slice ee4 0 nn4, .slice (some ⟨aa4, oo4, none⟩) 2 mm4] 27)).alloc (.cells #[.bool false, .int .i64 0, .int .i64 2199023255552, .int .i64 10] 32))
  have v5 := Lib.hid (((v4.out.step hb).alloc (.cells #[.int .i64 15, .int .i64 0, .slice ee4 0 nn4, .slice (some ⟨aa4, oo4, none⟩) 2 mm4] 27)).alloc (.cells #[.bool false, .int .i64 0, .int .i64 2199023255552, .int .i64 10] 32))
  have e5 := Lib.hid (((e4.out.step hb).alloc (.cells #[.int .i64 15, .int .i64 0, .slice ee4 0 nn4, .slice (some ⟨aa4, oo4, none⟩) 2 mm4] 27)).alloc (.cells #[.bool false, .int .i64 0, .int .i64 2199023255552, .int .i64 10] 32))
  have x5 := Lib.hid (((x4.out.step hb).alloc (.cells #[.int .i64 15, .int .i64 0, .slice ee4 0 nn4, .slice (some ⟨aa4, oo4, none⟩) 2 mm4] 27)).alloc (.cells #[.bool false, .int .i64 0, .int .i64 2199023255552, .int .i64 10] 32))
  have f5 := Lib.hid (((f4.out.step hb).alloc (.cells #[.int .i64 15, .int .i64 0, .slice ee4 0 nn4, .slice (some ⟨aa4, oo4, none⟩) 2 mm4] 27)).alloc (.cells #[.bool false, .int .i64 0, .int .i64 2199023255552, .int .i64 10] 32))
  have z5 := Lib.hid (((z4.out.step hb).alloc (.cells #[.int .i64 15, .int .i64 0, .slice ee4 0 nn4, .slice (some ⟨aa4, oo4, none⟩) 2 mm4] 27)).alloc (.cells #[.bool false, .int .i64 0, .int .i64 2199023255552, .int .i64 10] 32))
  have Sc5 := Lib.hid ((Sc4.out.below hb).below (below_two w5 (.cells #[.int .i64 15, .int .i64 0, .slice ee4 0 nn4, .slice (some ⟨aa4, oo4, none⟩) 2 mm4] 27) (.cells #[.bool false, .int .i64 0, .int .i64 2199023255552, .int .i64 10] 32)))
  have Sd5 := Lib.hid ((Sd4.out.below hb).below (below_two w5 (.cells #[.int .i64 15, .int .i64 0, .slice ee4 0 nn4, .slice (some ⟨aa4, oo4, none⟩) 2 mm4] 27) (.cells #[.bool false, .int .i64 0, .int .i64 2199023255552, .int .i64 10] 32)))
  have Se5 := Lib.hid ((Se4.out.below hb).below (below_two w5 (.cells #[.int .i64 15, .int .i64 0, .slice ee4 0 nn4, .slice (some ⟨aa4, oo4, none⟩) 2 mm4] 27) (.cells #[.bool false, .int .i64 0, .int .i64 2199023255552, .int .i64 10] 32)))
  have Sf5 := Lib.hid ((Sf4.out.below hb).below (below_two w5 (.cells #[.int .i64 15, .int .i64 0, .slice ee4 0 nn4, .slice (some ⟨aa4, oo4, none⟩) 2 mm4] 27) (.cells #[.bool false, .int .i64 0, .int .i64 2199023255552, .int .i64 10] 32)))
  have B5 := Lib.hid (Below.two (B4.out.trans (hb.mono B4.out.size)) (.cells #[.int .i64 15, .int .i64 0, .slice ee4 0 nn4, .slice (some ⟨aa4, oo4, none⟩) 2 mm4] 27) (.cells #[.bool false, .int .i64 0, .int .i64 2199023255552, .int .i64 10] 32))
  have y5 := Lib.hid (made1 w5 27 [.int .i64 15, .int .i64 0, .slice ee4 0 nn4, .slice (some ⟨aa4, oo4, none⟩) 2 mm4] (.cells #[.bool false, .int .i64 0, .int .i64 2199023255552, .int .i64 10] 32))
  have q5 := Lib.hid (made2 w5 32 27 [.bool false, .int .i64 0, .int .i64 2199023255552, .int .i64 10] (.cells #[.int .i64 15, .int .i64 0, .slice ee4 0 nn4, .slice (some ⟨aa4, oo4, none⟩) 2 mm4] 27))
  have Sy5 := Lib.hid (HS.out.below (below_two w5 (.cells #[.int .i64 15, .int .i64 0, .slice ee4 0 nn4, .slice (some ⟨aa4, oo4, none⟩) 2 mm4] 27) (.cells #[.bool false, .int .i64 0, .int .i64 2199023255552, .int .i64 10] 32)))
  clear hb p4 c4 u4 d4 v4 e4 x4 f4 z4 Sc4 Sd4 Se4 Sf4 B4
  clear HS
  obtain ⟨kf0, kf1, kf2, kf3⟩ := f5.out.four
  go_wp2_with fail
  refine (lvZ _ _ _ _ _ C3.out.1 C3.out.2 Sf5.out).mono ?_; rintro e w6 ⟨rfl, hb⟩
  clear kf0 kf1 kf2 kf3
  have p6 := Lib.hid (((p5.out.step hb).alloc (.cells #[.int .i64 15, .int .i64 0, .slice ee3 0 nn3, .slice (some ⟨aa3, oo3, none⟩) 2 mm3] 27)).alloc (.cells #[.bool false, .int .i64 0, .int .i64 0, .int .i64 0] 32))
  have c6 := Lib.hid (((c5.out.step hb).alloc (.cells #[.int .i64 15, .int .i64 0, .slice ee3 0 nn3, .slice (some ⟨aa3, oo3, none⟩) 2 mm3] 27)).alloc (.cells #[.bool false, .int .i64 0, .int .i64 0, .int .i64 0] 32))
  have u6 := Lib.hid (((u5.out.step hb).alloc (.cells #[.int .i64 15, .int .i64 0, .slice ee3 0 nn3, .slice (some ⟨aa3, oo3, none⟩) 2 mm3] 27)).alloc (.cells #[.bool false, .int .i64 0, .int .i64 0, .int .i64 0] 32))
  have d6 := Lib.hid (((d5.out.step hb).alloc (.cells #[.int .i64 15, .int .i64 0, .slice ee3 0 nn3, .slice (some ⟨aa3, oo3, none⟩) 2 mm3] 27)).alloc (.cells #[.bool false, .int .i64 0, .int .i64 0, .int .i64 0] 32))
  have v6 := Lib.hid (((v5.out.step hb).alloc (.cells #[.int .i64 15, .int .i64 0, .slice ee3 0 nn3, .slice (some ⟨aa3, oo3, none⟩) 2 mm3] 27)).alloc (.cells #[.bool false, .int .i64 0, .int .i64 0, .int .i64 0] 32))
  have e6 := Lib.hid (((e5.out.step hb).alloc (.cells #[.int .i64 15, .int .i64 0, .slice ee3 0 nn3, .slice (some ⟨aa3, oo3, none⟩) 2 mm3] 27)).alloc (.cells #[.bool false, .int .i64 0, .int .i64 0, .int .i64 0] 32))
  have x6 := Lib.hid (((x5.out.step hb).alloc (.cells #[.int .i64 15, .int .i64 0, .slice ee3 0 nn3, .slice (some ⟨aa3, oo3, none⟩) 2 mm3] 27)).alloc (.cells #[.bool false, .int .i64 0, .int .i64 0, .int .i64 0] 32))
  have f6 := Lib.hid (((f5.out.step hb).alloc (.cells #[.int .i64 15, .int .i64 0, .slice ee3 0 nn3, .slice (some ⟨aa3, oo3, none⟩) 2 mm3] 27)).alloc (.cells #[.bool false, .int .i64 0, .int .i64 0, .int .i64 0] 32))
  have z6 := Lib.hid (((z5.out.step hb).alloc (.cells #[.int .i64 15, .int .i64 0, .slice ee3 0 nn3, .slice (some ⟨aa3, oo3, none⟩) 2 mm3] 27)).alloc (.cells #[.bool false, .int .i64 0, .int .i64 0, .int .i64 0] 32))
  have y6 := Lib.hid (((y5.out.step hb).alloc (.cells #[.int .i64 15, .int .i64 0, .slice ee3 0 nn3, .slice (some ⟨aa3, oo3, none⟩) 2 mm3] 27)).alloc (.cells #[.bool false, .int .i64 0, .int .i64 0, .int .i64 0] 32))
  have q6 := Lib.hid (((q5.out.step hb).alloc (.cells #[.int .i64 15, .int .i64 0, .slice ee3 0 nn3, .slice (some ⟨aa3, oo3, none⟩) 2 mm3] 27)).alloc (.cells #[.bool false, .int .i64 0, .int .i64 0, .int .i64 0] 32))
  have Sc6 := Lib.hid ((Sc5.out.below hb).below (below_two w6 (.cells #[.int .i64 15, .int .i64 0, .slice ee3 0 nn3, .slice (some ⟨aa3, oo3, none⟩) 2 mm3] 27) (.cells #[.bool false, .int .i64 0, .int .i64 0, .int .i64 0] 32)))
  have Sd6 := Lib.hid ((Sd5.out.below hb).below (below_two w6 (.cells #[.int .i64 15, .int .i64 0, .slice ee3 0 nn3, .slice (some ⟨aa3, oo3, none⟩) 2 mm3] 27) (.cells #[.bool false, .int .i64 0, .int .i64 0, .int .i64 0] 32)))
  have Se6 := Lib.hid ((Se5.out.below hb).below (below_two w6 (.cells #[.int .i64 15, .int .i64 0, .slice ee3 0 nn3, .slice (some ⟨aa3, oo3, none⟩) 2 mm3] 27) (.cells #[.bool false, .int .i64 0, .int .i64 0, .int .i64 0] 32)))
  have Sf6 := Lib.hid ((Sf5.out.below hb).below (below_two w6 (.cells #[.int .i64 15, .int .i64 0, .slice ee3 0 nn3, .slice (some ⟨aa3, oo3, none⟩) 2 mm3] 27) (.cells #[.bool false, .int .i64 0, .int .i64 0, .int .i64 0] 32)))
  have Sy6 := Lib.hid ((Sy5.out.below hb).below (below_two w6 (.cells #[.int .i64 15, .int .i64 0, .slice ee3 0 nn3, .slice (some ⟨aa3, oo3, none⟩) 2 mm3] 27) (.cells #[.bool false, .int .i64 0, .int .i64 0, .int .i64 0] 32)))
  have B6 := Lib.hid (Below.two (B5.out.trans (hb.mono B5.out.size)) (.cells #[.int .i64 15, .int .i64 0, .slice ee3 0 nn3, .slice (some ⟨aa3, oo3, none⟩) 2 mm3] 27) (.cells #[.bool false, .int .i64 0, .int .i64 0, .int .i64 0] 32))
  have r6 := Lib.hid (made2 w6 32 27 [.bool false, .int .i64 0, .int .i64 0, .int .i64 0] (.cells #[.int .i64 15, .int .i64 0, .slice ee3 0 nn3, .slice (some ⟨aa3, oo3, none⟩) 2 mm3] 27))
  clear hb p5 c5 u5 d5 v5 e5 x5 f5 z5 y5 q5 Sc5 Sd5 Se5 Sf5 Sy5 B5
  obtain ⟨kp0, kp1, kp2, kp3⟩ := p6.out.four
  obtain ⟨ku0, ku1, ku2, ku3⟩ := u6.out.four
  obtain ⟨kd0, kd1, kd2, kd3⟩ := d6.out.four
  obtain ⟨kv0, kv1, kv2, kv3⟩ := v6.out.four
  obtain ⟨kx0, kx1, kx2, kx3⟩ := x6.out.four
  obtain ⟨kf0, kf1, kf2, kf3⟩ := f6.out.four
  obtain ⟨kz0, kz1, kz2, kz3⟩ := z6.out.four
  obtain ⟨kq0, kq1, kq2, kq3⟩ := q6.out.four
  obtain ⟨kr0, kr1, kr2, kr3⟩ := r6.out.four
  obtain ⟨_, _, eqd, _, hxd⟩ := Sd6.out (by decide)
  cases eqd
  have sd0 : ((w6.alloc (.cells #[.int .i64 15, .int .i64 0, .slice ee3 0 nn3, .slice (some ⟨aa3, oo3, none⟩) 2 mm3] 27)).alloc (.cells #[.bool false, .int .i64 0, .int .i64 0, .int .i64 0] 32)).cell? ⟨aa1, oo1, none⟩ = some (.int .i64 5) := (hxd 0 (by decide)).1
  have sd1 : ((w6.alloc (.cells #[.int .i64 15, .int .i64 0, .slice ee3 0 nn3, .slice (some ⟨aa3, oo3, none⟩) 2 mm3] 27)).alloc (.cells #[.bool false, .int .i64 0, .int .i64 0, .int .i64 0] 32)).cell? ⟨aa1, oo1 + 2, none⟩ = some (.int .i64 8) := (hxd 1 (by decide)).1
  have sd2 : ((w6.alloc (.cells #[.int .i64 15, .int .i64 0, .slice ee3 0 nn3, .slice (some ⟨aa3, oo3, none⟩) 2 mm3] 27)).alloc (.cells #[.bool false, .int .i64 0, .int .i64 0, .int .i64 0] 32)).cell? ⟨aa1, oo1 + 2 + 1, none⟩ = some (.int .i64 1) := (hxd 1 (by decide)).2
  clear hxd
  obtain ⟨_, _, eqf, _, hxf⟩ := Sf6.out (by decide)
  cases eqf
  have sf0 : ((w6.alloc (.cells #[.int .i64 15, .int .i64 0, .slice ee3 0 nn3, .slice (some ⟨aa3, oo3, none⟩) 2 mm3] 27)).alloc (.cells #[.bool false, .int .i64 0, .int .i64 0, .int .i64 0] 32)).cell? ⟨aa3, oo3, none⟩ = some (.int .i64 8) := (hxf 0 (by decide)).1
  have sf1 : ((w6.alloc (.cells #[.int .i64 15, .int .i64 0, .slice ee3 0 nn3, .slice (some ⟨aa3, oo3, none⟩) 2 mm3] 27)).alloc (.cells #[.bool false, .int .i64 0, .int .i64 0, .int .i64 0] 32)).cell? ⟨aa3, oo3 + 2, none⟩ = some (.int .i64 15) := (hxf 1 (by decide)).1
  have sf2 : ((w6.alloc (.cells #[.int .i64 15, .int .i64 0, .slice ee3 0 nn3, .slice (some ⟨aa3, oo3, none⟩) 2 mm3] 27)).alloc (.cells #[.bool false, .int .i64 0, .int .i64 0, .int .i64 0] 32)).cell? ⟨aa3, oo3 + 2 + 1, none⟩ = some (.int .i64 1) := (hxf 1 (by decide)).2
  clear hxf
  go_wp2_with fail
  refine (lvL _ _ _ _ _ C1.out.1 C1.out.2 Sd6.out).mono ?_; rintro e w7 ⟨rfl, hb⟩
  clear kp0 kp1 kp2 kp3 ku0 ku1 ku2 ku3 kd0 kd1 kd2 kd3 kv0 kv1 kv2 kv3 kx0 kx1 kx2 kx3 kf0 kf1 kf2 kf3 kz0 kz1 kz2 kz3 kq0 kq1 kq2 kq3 kr0 kr1 kr2 kr3 sd0 sd1 sd2 sf0 sf1 sf2
  have p7 := Lib.hid (p6.out.step hb)
  have c7 := Lib.hid (c6.out.step hb)
  have u7 := Lib.hid (u6.out.step hb)
  have d7 := Lib.hid (d6.out.step hb)
  have v7 := Lib.hid (v6.out.step hb)
  have e7 := Lib.hid (e6.out.step hb)
  have x7 := Lib.hid (x6.out.step hb)
  have f7 := Lib.hid (f6.out.step hb)
  have z7 := Lib.hid (z6.out.step hb)
  have y7 := Lib.hid (y6.out.step hb)
  have q7 := Lib.hid (q6.out.step hb)
  have r7 := Lib.hid (r6.out.step hb)
  have Sc7 := Lib.hid (Sc6.out.below hb)
  have Sd7 := Lib.hid (Sd6.out.below hb)
  have Se7 := Lib.hid (Se6.out.below hb)
  have Sf7 := Lib.hid (Sf6.out.below hb)
  have Sy7 := Lib.hid (Sy6.out.below hb)
  have B7 := Lib.hid (B6.out.trans (hb.mono B6.out.size))
  clear hb p6 c6 u6 d6 v6 e6 x6 f6 z6 y6 q6 r6 Sc6 Sd6 Se6 Sf6 Sy6 B6
  obtain ⟨kp0, kp1, kp2, kp3⟩ := p7.out.four
  obtain ⟨ku0, ku1, ku2, ku3⟩ := u7.out.four
  obtain ⟨kd0, kd1, kd2, kd3⟩ := d7.out.four
  obtain ⟨kv0, kv1, kv2, kv3⟩ := v7.out.four
  obtain ⟨kx0, kx1, kx2, kx3⟩ := x7.out.four
  obtain ⟨kf0, kf1, kf2, kf3⟩ := f7.out.four
  obtain ⟨kz0, kz1, kz2, kz3⟩ := z7.out.four
  obtain ⟨kq0, kq1, kq2, kq3⟩ := q7.out.four
  obtain ⟨kr0, kr1, kr2, kr3⟩ := r7.out.four
  obtain ⟨_, _, eqd, _, hxd⟩ := Sd7.out (by decide)
  cases eqd
  have sd0 : w7.cell? ⟨aa1, oo1, none⟩ = some (.int .i64 5) := (hxd 0 (by decide)).1
  have sd1 : w7.cell? ⟨aa1, oo1 + 2, none⟩ = some (.int .i64 8) := (hxd 1 (by decide)).1
  have sd2 : w7.cell? ⟨aa1, oo1 + 2 + 1, none⟩ = some (.int .i64 1) := (hxd 1 (by decide)).2
  clear hxd
  obtain ⟨_, _, eqf, _, hxf⟩ := Sf7.out (by decide)
  cases eqf
  have sf0 : w7.cell? ⟨aa3, oo3, none⟩ = some (.int .i64 8) := (hxf 0 (by decide)).1
  have sf1 : w7.cell? ⟨aa3, oo3 + 2, none⟩ = some (.int .i64 15) := (hxf 1 (by decide)).1
  have sf2 : w7.cell? ⟨aa3, oo3 + 2 + 1, none⟩ = some (.int .i64 1) := (hxf 1 (by decide)).2
  clear hxf
  go_wp2_with fail
  refine (lvL2 _ _ _ _ _ C1.out.1 C1.out.2 Sd7.out).mono ?_; rintro e w8 ⟨rfl, hb⟩
  clear kp0 kp1 kp2 kp3 ku0 ku1 ku2 ku3 kd0 kd1 kd2 kd3 kv0 kv1 kv2 kv3 kx0 kx1 kx2 kx3 kf0 kf1 kf2 kf3 kz0 kz1 kz2 kz3 kq0 kq1 kq2 kq3 kr0 kr1 kr2 kr3 sd0 sd1 sd2 sf0 sf1 sf2
  have p8 := Lib.hid (p7.out.step hb)
  have c8 := Lib.hid (c7.out.step hb)
  have u8 := Lib.hid (u7.out.step hb)
  have d8 := Lib.hid (d7.out.step hb)
  have v8 := Lib.hid (v7.out.step hb)
  have e8 := Lib.hid (e7.out.step hb)
  have x8 := Lib.hid (x7.out.step hb)
  have f8 := Lib.hid (f7.out.step hb)
  have z8 := Lib.hid (z7.out.step hb)
  have y8 := Lib.hid (y7.out.step hb)
  have q8 := Lib.hid (q7.out.step hb)
  have r8 := Lib.hid (r7.out.step hb)
  have Sc8 := Lib.hid (Sc7.out.below hb)
  have Sd8 := Lib.hid (Sd7.out.below hb)
  have Se8 := Lib.hid (Se7.out.below hb)
  have Sf8 := Lib.hid (Sf7.out.below hb)
  have Sy8 := Lib.hid (Sy7.out.below hb)
  have B8 := Lib.hid (B7.out.trans (hb.mono B7.out.size))
  clear hb p7 c7 u7 d7 v7 e7 x7 f7 z7 y7 q7 r7 Sc7 Sd7 Se7 Sf7 Sy7 B7
  obtain ⟨kp0, kp1, kp2, kp3⟩ := p8.out.four
  obtain ⟨ku0, ku1, ku2, ku3⟩ := u8.out.four
  obtain ⟨kd0, kd1, kd2, kd3⟩ := d8.out.four
  obtain ⟨kv0, kv1, kv2, kv3⟩ := v8.out.four
  obtain ⟨kx0, kx1, kx2, kx3⟩ := x8.out.four
  obtain ⟨kf0, kf1, kf2, kf3⟩ := f8.out.four
  obtain ⟨kz0, kz1, kz2, kz3⟩ := z8.out.four
  obtain ⟨kq0, kq1, kq2, kq3⟩ := q8.out.four
  obtain ⟨kr0, kr1, kr2, kr3⟩ := r8.out.four
  obtain ⟨_, _, eqd, _, hxd⟩ := Sd8.out (by decide)
  cases eqd
  have sd0 : w8.cell? ⟨aa1, oo1, none⟩ = some (.int .i64 5) := (hxd 0 (by decide)).1
  have sd1 : w8.cell? ⟨aa1, oo1 + 2, none⟩ = some (.int .i64 8) := (hxd 1 (by decide)).1
  have sd2 : w8.cell? ⟨aa1, oo1 + 2 + 1, none⟩ = some (.int .i64 1) := (hxd 1 (by decide)).2
  clear hxd
  obtain ⟨_, _, eqf, _, hxf⟩ := Sf8.out (by decide)
  cases eqf
  have sf0 : w8.cell? ⟨aa3, oo3, none⟩ = some (.int .i64 8) := (hxf 0 (by decide)).1
  have sf1 : w8.cell? ⟨aa3, oo3 + 2, none⟩ = some (.int .i64 15) := (hxf 1 (by decide)).1
  have sf2 : w8.cell? ⟨aa3, oo3 + 2 + 1, none⟩ = some (.int .i64 1) := (hxf 1 (by decide)).2
  clear hxf
  go_wp2_with fail
  refine (lvE _ _ _ _ _ C1.out.1 C1.out.2 Sd8.out).mono ?_; rintro e w9 ⟨rfl, hb⟩
  clear kp0 kp1 kp2 kp3 ku0 ku1 ku2 ku3 kd0 kd1 kd2 kd3 kv0 kv1 kv2 kv3 kx0 kx1 kx2 kx3 kf0 kf1 kf2 kf3 kz0 kz1 kz2 kz3 kq0 kq1 kq2 kq3 kr0 kr1 kr2 kr3 sd0 sd1 sd2 sf0 sf1 sf2
  have p9 := Lib.hid (p8.out.step hb)
  have c9 := Lib.hid (c8.out.step hb)
  have u9 := Lib.hid (u8.out.step hb)
  have d9 := Lib.hid (d8.out.step hb)
  have v9 := Lib.hid (v8.out.step hb)
  have e9 := Lib.hid (e8.out.step hb)
  have x9 := Lib.hid (x8.out.step hb)
  have f9 := Lib.hid (f8.out.step hb)
  have z9 := Lib.hid (z8.out.step hb)
  have y9 := Lib.hid (y8.out.step hb)
  have q9 := Lib.hid (q8.out.step hb)
  have r9 := Lib.hid (r8.out.step hb)
  have Sc9 := Lib.hid (Sc8.out.below hb)
  have Sd9 := Lib.hid (Sd8.out.below hb)
  have Se9 := Lib.hid (Se8.out.below hb)
  have Sf9 := Lib.hid (Sf8.out.below hb)
  have Sy9 := Lib.hid (Sy8.out.below hb)
  have B9 := Lib.hid (B8.out.trans (hb.mono B8.out.size))
  clear hb p8 c8 u8 d8 v8 e8 x8 f8 z8 y8 q8 r8 Sc8 Sd8 Se8 Sf8 Sy8 B8
  obtain ⟨kp0, kp1, kp2, kp3⟩ := p9.out.four
  obtain ⟨ku0, ku1, ku2, ku3⟩ := u9.out.four
  obtain ⟨kd0, kd1, kd2, kd3⟩ := d9.out.four
  obtain ⟨kv0, kv1, kv2, kv3⟩ := v9.out.four
  obtain ⟨kx0, kx1, kx2, kx3⟩ := x9.out.four
  obtain ⟨kf0, kf1, kf2, kf3⟩ := f9.out.four
  obtain ⟨kz0, kz1, kz2, kz3⟩ := z9.out.four
  obtain ⟨kq0, kq1, kq2, kq3⟩ := q9.out.four
  obtain ⟨kr0, kr1, kr2, kr3⟩ := r9.out.four
  obtain ⟨_, _, eqd, _, hxd⟩ := Sd9.out (by decide)
  cases eqd
  have sd0 : w9.cell? ⟨aa1, oo1, none⟩ = some (.int .i64 5) := (hxd 0 (by decide)).1
  have sd1 : w9.cell? ⟨aa1, oo1 + 2, none⟩ = some (.int .i64 8) := (hxd 1 (by decide)).1
  have sd2 : w9.cell? ⟨aa1, oo1 + 2 + 1, none⟩ = some (.int .i64 1) := (hxd 1 (by decide)).2
  clear hxd
  obtain ⟨_, _, eqf, _, hxf⟩ := Sf9.out (by decide)
  cases eqf
  have sf0 : w9.cell? ⟨aa3, oo3, none⟩ = some (.int .i64 8) := (hxf 0 (by decide)).1
  have sf1 : w9.cell? ⟨aa3, oo3 + 2, none⟩ = some (.int .i64 15) := (hxf 1 (by decide)).1
  have sf2 : w9.cell? ⟨aa3, oo3 + 2 + 1, none⟩ = some (.int .i64 1) := (hxf 1 (by decide)).2
  clear hxf
  go_wp2_with fail
  refine (lvM _ _ _ _ _ C1.out.1 C1.out.2 Sd9.out).mono ?_; rintro e w10 ⟨rfl, hb⟩
  clear kp0 kp1 kp2 kp3 ku0 ku1 ku2 ku3 kd0 kd1 kd2 kd3 kv0 kv1 kv2 kv3 kx0 kx1 kx2 kx3 kf0 kf1 kf2 kf3 kz0 kz1 kz2 kz3 kq0 kq1 kq2 kq3 kr0 kr1 kr2 kr3 sd0 sd1 sd2 sf0 sf1 sf2
  have p10 := Lib.hid (p9.out.step hb)
  have c10 := Lib.hid (c9.out.step hb)
  have u10 := Lib.hid (u9.out.step hb)
  have d10 := Lib.hid (d9.out.step hb)
  have v10 := Lib.hid (v9.out.step hb)
  have e10 := Lib.hid (e9.out.step hb)
  have x10 := Lib.hid (x9.out.step hb)
  have f10 := Lib.hid (f9.out.step hb)
  have z10 := Lib.hid (z9.out.step hb)
  have y10 := Lib.hid (y9.out.step hb)
  have q10 := Lib.hid (q9.out.step hb)
  have r10 := Lib.hid (r9.out.step hb)
  have Sc10 := Lib.hid (Sc9.out.below hb)
  have Sd10 := Lib.hid (Sd9.out.below hb)
  have Se10 := Lib.hid (Se9.out.below hb)
  have Sf10 := Lib.hid (Sf9.out.below hb)
  have Sy10 := Lib.hid (Sy9.out.below hb)
  have B10 := Lib.hid (B9.out.trans (hb.mono B9.out.size))
  clear hb p9 c9 u9 d9 v9 e9 x9 f9 z9 y9 q9 r9 Sc9 Sd9 Se9 Sf9 Sy9 B9
  obtain ⟨kp0, kp1, kp2, kp3⟩ := p10.out.four
  go_wp2_with fail
  refine (lvN _).mono ?_; rintro e w11 ⟨rfl, hb⟩
  go_wp2_with fail
  go_ret
  exact ⟨rfl, B10.out.trans ((((Below.refl _ _).alloc (Nat.le_refl _) _).trans (hb.mono (by simp))).mono B10.out.size)⟩
end Go.Proofs.Ytgdcgilhaedbmaa
