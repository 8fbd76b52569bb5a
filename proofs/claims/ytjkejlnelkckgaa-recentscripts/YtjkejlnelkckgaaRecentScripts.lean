/- For all lists of calls the law RecentScripts returns true: whatever is called of a new Recent, each answer, its order and its length are the document's own (of at most 100 calls, else only the document's examples are asked). -/
import Derived.Test.YtjkejlnelkckgaaRcY
import Derived.Test.YtjkejlnelkckgaaRows
import Derived.Deep.RegionHeld3
namespace Go.Proofs.Ytjkejlnelkckgaa.recentScripts
open Go.ChangeShapes Go.WideShapes Go.ChangeAt Go.RowKit
set_option linter.unusedVariables false

/-- A Recent and the document's one, of the same ids. -/
structure Bo (w : World) (bP bM bR : Nat) (l : List Nat) (A : Option Addr) (cap : Nat) : Prop where
  rc : RC w bP bM l
  rk : RK w bR (two bP bM) l A cap
def tri (bP bM bR b : Nat) : Prop := b = bP ∨ b = bM ∨ b = bR
section
variable {w w' : World} {bP bM bR : Nat} {l l' : List Nat} {A : Option Addr} {cap : Nat}
theorem Bo.below (h : Bo w bP bM bR l A cap) (hb : Below w.heap.size w w') : Bo w' bP bM bR l A cap := ⟨h.rc.below hb, h.rk.below hb⟩
theorem Bo.ne (h : Bo w bP bM bR l A cap) : bR ≠ bP ∧ bR ≠ bM := ⟨fun e => h.rk.nb (.inl e), fun e => h.rk.nb (.inr e)⟩
theorem Bo.nlt (h : Bo w bP bM bR l A cap) (hs : w.heap.size ≤ w'.heap.size) : ∀ b, two bP bM b → b < w'.heap.size := fun b hb => by
  have := h.rc.lt
  rcases hb with e | e <;> omega
theorem tri_two (h : Kept (two bP bM) w w') : Kept (tri bP bM bR) w w' := h.mono (fun b _ e => e.elim .inl (fun e => .inr (.inl e)))
theorem tri_ref (h : Kept (fun b => b = bR) w w') : Kept (tri bP bM bR) w w' := h.mono (fun b _ e => .inr (.inr e))
theorem tri_trans {a b c : World} (h : Kept (tri bP bM bR) a b) (k : Kept (tri bP bM bR) b c) : Kept (tri bP bM bR) a c := h.trans k (fun _ e => .inl e)
theorem RC.past (h : RC w bP bM l) (hk : Kept (fun b => b = bR) w w') (hn : bR ≠ bP ∧ bR ≠ bM) : RC w' bP bM l := h.kept hk (fun e => hn.1 e.symm) (fun e => hn.2 e.symm)
end
theorem start {w : World} {bP bM : Nat} (h : RC w bP bM []) : Bo (w.alloc (.cells #[.slice none 0 0] 28)) bP bM w.heap.size [] none 0 := by
  have hlt := h.lt
  exact ⟨h.below (box_below _), ⟨Has.made w _ [.slice none 0 0], ⟨Nat.zero_le _, fun h => by simp [cI] at h⟩, (fun a e => by cases e), (fun e => by rcases e with e | e <;> omega)⟩⟩
set_option maxRecDepth 100000 in
set_option maxHeartbeats 4000000 in
theorem main (A : Option Addr) (len cap : Nat) {W : World} (hops : IsOps W A len cap) :
    Calls Try.prog 3 #[.slice A len cap] W fun e w' => e = .returned (.bool true) ∧ Below W.heap.size W w' := by
  have hlm : len ≤ 9223372036854775807 := by have := hops.2.1; have := hops.1; unfold maxLen at *; omega
  have hlc := hops.1
  have HOPS := Lib.hid hops
  clear hops
  go_enter Try.func3, Try.ntmps3
  go_wp2_with fail
  refine (New_T W).mono ?_
  rintro e w1 ⟨bP, bM, rfl, hW, hB, h1, h2⟩
  have HS0 := Lib.hid (start hW)
  have HB0 := Lib.hid (hB.alloc hB.size (.cells #[.slice none 0 0] 28))
  have h3 := hB.size
  have HBK := Lib.hid (fun w' w'' (h : Below W.heap.size W w') (k : Kept (tri bP bM w1.heap.size) w' w'') => h.trans (k.below (B := W.heap.size) h.size (fun i hi hf => by rcases hf with e | e | e <;> omega)))
  have HBR := Lib.hid h3
  clear hW hB h1 h2 h3
  by_cases h100 : 100 < len
  · go_wp2_with fail
    refine (live_any _).mono ?_
    rintro e w6 ⟨rfl, hb⟩
    have HB8 := Lib.hid (HB0.out.trans (hb.mono HB0.out.size))
    clear hb
    go_wp2
    go_ret
    exact ⟨rfl, HB8.out⟩
  · have t100 : decide ((100 : Int) < (len : Int)) = false := by simp; omega
    go_wp2_with fail
    go_loopw [5] (fun i wr => ∃ (j : Nat) (l : List Nat) (Al : Option Addr) (capl : Nat), j ≤ len ∧ i = .int .i64 (j : Int) ∧ Bo wr bP bM w1.heap.size l Al capl ∧ l.length ≤ j ∧ Below W.heap.size W wr) (fun i _ => len - (intOf i).toNat)
    case atStart => exact ⟨0, [], none, 0, Nat.zero_le _, rfl, HS0.out, Nat.le_refl _, HB0.out⟩
    case round =>
      clear HS0 HB0
      obtain ⟨j, l, Al, capl, hj, rfl, hI, hn, hL⟩ := hrel
      have HI := Lib.hid hI
      have HL := Lib.hid hL
      have HN := Lib.hid hn
      clear hI hL hn
      generalize w1.heap.size = bR at *
      by_cases hlt : j < len
      · obtain ⟨b, off, rfl, hb, hall⟩ := HOPS.out.2.2 (by omega)
        obtain ⟨d, k, ho⟩ := hall j hlt
        clear hall
        have c0 := (HL.out.cell (p := ⟨b, off + j * 2, none⟩) hb).trans ho.c0
        have c1 := (HL.out.cell (p := ⟨b, off + j * 2 + 1, none⟩) hb).trans ho.c1
        have HKK := Lib.hid ho.w1
        have HC1' := Lib.hid (fun u (hu : Below W.heap.size W u) => (hu.cell (p := ⟨b, off + j * 2 + 1, none⟩) hb).trans ho.c1)
        have hbW : ∀ u, Below W.heap.size W u → b < u.heap.size := fun u hu => Nat.lt_of_lt_of_le hb hu.size
        have HBW := Lib.hid hbW
        have hbr := hbW _ HL.out
        clear ho hbW
        have HDR := Lib.hid (HI.out.below (Below.refl wr.heap.size wr).drew)
        have HLD := Lib.hid (show Below W.heap.size W wr.drew from HL.out.drew)
        by_cases d0 : d = 0
        · subst d0
          by_cases k0 : 0 ≤ k
          · obtain ⟨x, rfl⟩ := Int.eq_ofNat_of_zero_le k0
            have HX := Lib.hid (show x ≤ 9223372036854775807 by have := HKK.out; unfold I64 at this; omega)
            have HC1 := Lib.hid (Touch_T bP bM l _ HDR.out.rc x HX.out (by have := HN.out; omega))
            have HTT := Lib.hid (show (flt l x ++ [x]).length ≤ j + 1 by have := flt_le l x; have := HN.out; simp; omega)
            have HRR := Lib.hid True.intro
            clear k0
            go_wp2_with fail
            go_region_held3 (fun w' => w'.cell? ⟨b, off + j * 2 + 1, none⟩ = some (.int .i64 (x : Int))) (first | exact c1 | exact y1 | exact u1 | go_keep) (first | (go_at_call 10; refine HC1.out.mono ?_; rintro e w2 ⟨rfl, hW2, hK2⟩; have HW2 := Lib.hid hW2; have HK2 := Lib.hid hK2; have hl2 := HBK.out _ _ HLD.out (tri_two hK2); have HL2 := Lib.hid hl2; have y1 := HC1'.out _ hl2; have yb := HBW.out _ hl2; have hR2 := HDR.out.rk.kept hK2; have HC2 := Lib.hid (rTouch_yes bR (two bP bM) l Al capl w2 hR2 x HDR.out.rc.nd (by have := HN.out; omega) (HDR.out.nlt hK2.size)); clear hW2 hK2 hl2 hR2 HC1) | (go_at_call 11; refine HC2.out.mono ?_; rintro e w3 ⟨rfl, ⟨A3, cap3, hR3⟩, hK3⟩; have HZ := Lib.hid (show Bo w3 bP bM bR (flt l x ++ [x]) A3 cap3 from ⟨RC.past HW2.out hK3 HDR.out.ne, hR3⟩); have hl3 := HBK.out _ _ HL2.out (tri_ref hK3); have HLz := Lib.hid hl3; have u1 := HC1'.out _ hl3; have ub := HBW.out _ hl3; clear hl3 hR3 hK3 HC2))
            generalize hlz : flt l x ++ [x] = lz at *
            clear hlz HW2 HK2 HL2 y1 yb u1 ub
            have lenz : lz.length ≤ 101 := by have := HTT.out; omega
            have HZL := Lib.hid (fun u (hu : RC u bP bM lz) => Len_T bP bM lz u hu (by omega))
            have HZO := Lib.hid (fun u (hu : RC u bP bM lz) => Order_T bP bM lz u hu (by omega))
            have HZD := Lib.hid (HZ.out.below (Below.refl _ w3).drew)
            have HLzD := Lib.hid (show Below W.heap.size W w3.drew from HLz.out.drew)
            have z0 := HZ.out.rk.cell
            have zb := HZ.out.rk.hd.lt
            have zle := HZ.out.rk.le
            obtain ⟨nz, hnz⟩ : ∃ nz, lz.length = nz := ⟨_, rfl⟩
            have HNZ := Lib.hid hnz
            rw [hnz] at z0 HZL zle lenz
            clear hnz
            go_wp2_with fail
            go_region_held3 (fun w' => w'.cell? ⟨bR, 0, none⟩ = some (.slice A3 nz cap3)) (first | exact z0 | exact q0 | go_keep) (first | (go_at_call 18; refine (HZL.out _ HZD.out.rc).mono ?_; rintro e w5 ⟨rfl, rfl⟩) | (go_at_call 20; refine (HZO.out _ HZD.out.rc).mono ?_; rintro e w6 ⟨v6, rfl, hO6, hb6⟩; obtain ⟨A6, c6, e6, hI6⟩ := hO6.ints; rw [HNZ.out] at e6; subst e6; have HI6 := Lib.hid hI6; have HZ6 := Lib.hid (HZD.out.below hb6); have HL6 := Lib.hid (HLzD.out.trans (hb6.mono HLzD.out.size)); have q0 := HZ6.out.rk.cell; rw [HNZ.out] at q0; have qb := HZ6.out.rk.hd.lt; have HIN := Lib.hid (Ints_yes A6 A3 c6 cap3 (cI lz) w6 HI6.out HZ6.out.rk.at_ (by rw [cI_len, HNZ.out]; omega)); rw [cI_len, HNZ.out] at HIN; clear hO6 hb6 hI6) | (go_at_call 19; refine HIN.out.mono ?_; rintro e w7 ⟨rfl, m7, rfl⟩))
            have HB7 := Lib.hid (show Below w6.heap.size w6 (w6.drewN m7) from ⟨rfl, rfl, rfl, Nat.le_refl _, fun _ _ => rfl⟩)
            have HZ7 := Lib.hid (HZ6.out.below HB7.out)
            have HL7 := Lib.hid (HL6.out.trans (HB7.out.mono HL6.out.size))
            go_wp2
            go_roundw
            case rel => exact ⟨j + 1, lz, A3, cap3, by omega, by go_num, HZ7.out, HTT.out, HL7.out⟩
            case measure => simp [intOf]; omega
          · have HC1 := Lib.hid (Touch_no bP bM l _ HDR.out.rc k (by omega))
            have HC2 := Lib.hid (rTouch_no bR wr.drew k (by omega))
            have HTT := Lib.hid (show l.length ≤ j + 1 by have := HN.out; omega)
            go_wp2_with fail
            go_region_held3 (fun w' => w'.cell? ⟨b, off + j * 2 + 1, none⟩ = some (.int .i64 (k : Int))) (first | exact c1 | exact y1 | exact u1 | go_keep) (first | (go_at_call 10; refine HC1.out.mono ?_; rintro e w2 ⟨rfl, rfl⟩; skip) | (go_at_call 11; refine HC2.out.mono ?_; rintro e w3 ⟨rfl, rfl⟩))
            have lenz : l.length ≤ 101 := by have := HTT.out; omega
            have HZL := Lib.hid (fun u (hu : RC u bP bM l) => Len_T bP bM l u hu (by omega))
            have HZO := Lib.hid (fun u (hu : RC u bP bM l) => Order_T bP bM l u hu (by omega))
            have HZD := Lib.hid (HDR.out.below (Below.refl _ wr.drew).drew)
            have HLzD := Lib.hid (show Below W.heap.size W wr.drew.drew from HLD.out.drew)
            have z0 := HDR.out.rk.cell
            have zb := HDR.out.rk.hd.lt
            have zle := HDR.out.rk.le
            obtain ⟨nz, hnz⟩ : ∃ nz, l.length = nz := ⟨_, rfl⟩
            have HNZ := Lib.hid hnz
            rw [hnz] at z0 HZL zle lenz
            clear hnz
            go_wp2_with fail
            go_region_held3 (fun w' => w'.cell? ⟨bR, 0, none⟩ = some (.slice Al nz capl)) (first | exact z0 | exact q0 | go_keep) (first | (go_at_call 18; refine (HZL.out _ HZD.out.rc).mono ?_; rintro e w5 ⟨rfl, rfl⟩) | (go_at_call 20; refine (HZO.out _ HZD.out.rc).mono ?_; rintro e w6 ⟨v6, rfl, hO6, hb6⟩; obtain ⟨A6, c6, e6, hI6⟩ := hO6.ints; rw [HNZ.out] at e6; subst e6; have HI6 := Lib.hid hI6; have HZ6 := Lib.hid (HZD.out.below hb6); have HL6 := Lib.hid (HLzD.out.trans (hb6.mono HLzD.out.size)); have q0 := HZ6.out.rk.cell; rw [HNZ.out] at q0; have qb := HZ6.out.rk.hd.lt; have HIN := Lib.hid (Ints_yes A6 Al c6 capl (cI l) w6 HI6.out HZ6.out.rk.at_ (by rw [cI_len, HNZ.out]; omega)); rw [cI_len, HNZ.out] at HIN; clear hO6 hb6 hI6) | (go_at_call 19; refine HIN.out.mono ?_; rintro e w7 ⟨rfl, m7, rfl⟩))
            have HB7 := Lib.hid (show Below w6.heap.size w6 (w6.drewN m7) from ⟨rfl, rfl, rfl, Nat.le_refl _, fun _ _ => rfl⟩)
            have HZ7 := Lib.hid (HZ6.out.below HB7.out)
            have HL7 := Lib.hid (HL6.out.trans (HB7.out.mono HL6.out.size))
            go_wp2
            go_roundw
            case rel => exact ⟨j + 1, l, Al, capl, by omega, by go_num, HZ7.out, HTT.out, HL7.out⟩
            case measure => simp [intOf]; omega
        by_cases d1 : d = 1
        · subst d1
          by_cases k0 : 0 ≤ k
          · obtain ⟨x, rfl⟩ := Int.eq_ofNat_of_zero_le k0
            have HX := Lib.hid (show x ≤ 9223372036854775807 by have := HKK.out; unfold I64 at this; omega)
            obtain ⟨r, hr⟩ : ∃ r : Bool, r = true ↔ x ∈ l := ⟨decide (x ∈ l), by simp⟩
            have HC1 := Lib.hid (Drop_any bP bM l _ HDR.out.rc x HX.out (by have := HN.out; omega) r hr)
            have HTT := Lib.hid (show (flt l x).length ≤ j + 1 by have := flt_le l x; have := HN.out; omega)
            have HRR := Lib.hid hr
            clear k0
            go_wp2_with fail
            go_region_held3 (fun w' => w'.cell? ⟨b, off + j * 2 + 1, none⟩ = some (.int .i64 (x : Int))) (first | exact c1 | exact y1 | exact u1 | go_keep) (first | (go_at_call 12; refine HC1.out.mono ?_; rintro e w2 ⟨rfl, hW2, hK2⟩; have HW2 := Lib.hid hW2; have HK2 := Lib.hid hK2; have hl2 := HBK.out _ _ HLD.out (tri_two hK2); have HL2 := Lib.hid hl2; have y1 := HC1'.out _ hl2; have yb := HBW.out _ hl2; have hR2 := HDR.out.rk.kept hK2; have HC2 := Lib.hid (rDrop_any bR (two bP bM) l Al capl w2 hR2 x HDR.out.rc.nd (by have := HN.out; omega) (HDR.out.nlt hK2.size) r HRR.out); clear hW2 hK2 hl2 hR2 HC1) | (go_at_call 13; refine HC2.out.mono ?_; rintro e w3 ⟨rfl, ⟨A3, cap3, hR3⟩, hK3⟩; have HZ := Lib.hid (show Bo w3 bP bM bR (flt l x) A3 cap3 from ⟨RC.past HW2.out hK3 HDR.out.ne, hR3⟩); have hl3 := HBK.out _ _ HL2.out (tri_ref hK3); have HLz := Lib.hid hl3; have u1 := HC1'.out _ hl3; have ub := HBW.out _ hl3; clear hl3 hR3 hK3 HC2))
            have hbb : (r == r) = true := by simp
            have hbn : (r != r) = false := by simp
            generalize hlz : flt l x = lz at *
            clear hlz HW2 HK2 HL2 y1 yb u1 ub
            have lenz : lz.length ≤ 101 := by have := HTT.out; omega
            have HZL := Lib.hid (fun u (hu : RC u bP bM lz) => Len_T bP bM lz u hu (by omega))
            have HZO := Lib.hid (fun u (hu : RC u bP bM lz) => Order_T bP bM lz u hu (by omega))
            have HZD := Lib.hid (HZ.out.below (Below.refl _ w3).drew)
            have HLzD := Lib.hid (show Below W.heap.size W w3.drew from HLz.out.drew)
            have z0 := HZ.out.rk.cell
            have zb := HZ.out.rk.hd.lt
            have zle := HZ.out.rk.le
            obtain ⟨nz, hnz⟩ : ∃ nz, lz.length = nz := ⟨_, rfl⟩
            have HNZ := Lib.hid hnz
            rw [hnz] at z0 HZL zle lenz
            clear hnz
            go_wp2_with fail
            go_region_held3 (fun w' => w'.cell? ⟨bR, 0, none⟩ = some (.slice A3 nz cap3)) (first | exact z0 | exact q0 | go_keep) (first | (go_at_call 18; refine (HZL.out _ HZD.out.rc).mono ?_; rintro e w5 ⟨rfl, rfl⟩) | (go_at_call 20; refine (HZO.out _ HZD.out.rc).mono ?_; rintro e w6 ⟨v6, rfl, hO6, hb6⟩; obtain ⟨A6, c6, e6, hI6⟩ := hO6.ints; rw [HNZ.out] at e6; subst e6; have HI6 := Lib.hid hI6; have HZ6 := Lib.hid (HZD.out.below hb6); have HL6 := Lib.hid (HLzD.out.trans (hb6.mono HLzD.out.size)); have q0 := HZ6.out.rk.cell; rw [HNZ.out] at q0; have qb := HZ6.out.rk.hd.lt; have HIN := Lib.hid (Ints_yes A6 A3 c6 cap3 (cI lz) w6 HI6.out HZ6.out.rk.at_ (by rw [cI_len, HNZ.out]; omega)); rw [cI_len, HNZ.out] at HIN; clear hO6 hb6 hI6) | (go_at_call 19; refine HIN.out.mono ?_; rintro e w7 ⟨rfl, m7, rfl⟩))
            have HB7 := Lib.hid (show Below w6.heap.size w6 (w6.drewN m7) from ⟨rfl, rfl, rfl, Nat.le_refl _, fun _ _ => rfl⟩)
            have HZ7 := Lib.hid (HZ6.out.below HB7.out)
            have HL7 := Lib.hid (HL6.out.trans (HB7.out.mono HL6.out.size))
            go_wp2
            go_roundw
            case rel => exact ⟨j + 1, lz, A3, cap3, by omega, by go_num, HZ7.out, HTT.out, HL7.out⟩
            case measure => simp [intOf]; omega
          · have HC1 := Lib.hid (Drop_neg bP bM l _ HDR.out.rc k HKK.out (fun x hx e => by omega))
            have HTT := Lib.hid (show l.length ≤ j + 1 by have := HN.out; omega)
            go_wp2_with fail
            go_region_held3 (fun w' => w'.cell? ⟨b, off + j * 2 + 1, none⟩ = some (.int .i64 (k : Int))) (first | exact c1 | exact y1 | exact u1 | go_keep) (first | (go_at_call 12; refine HC1.out.mono ?_; rintro e w2 ⟨rfl, hb2⟩; have HZ := Lib.hid (HDR.out.below hb2); have hl2 := HLD.out.trans (hb2.mono HLD.out.size); have HLz := Lib.hid hl2; have y1 := HC1'.out _ hl2; have yb := HBW.out _ hl2; have HC2 := Lib.hid (rDrop_no bR (two bP bM) l Al capl w2 HZ.out.rk k (fun x hx e => by omega) (by have := HN.out; omega)); clear hb2 hl2 HC1) | (go_at_call 13; refine HC2.out.mono ?_; rintro e w3 ⟨rfl, rfl⟩))
            have lenz : l.length ≤ 101 := by have := HTT.out; omega
            have HZL := Lib.hid (fun u (hu : RC u bP bM l) => Len_T bP bM l u hu (by omega))
            have HZO := Lib.hid (fun u (hu : RC u bP bM l) => Order_T bP bM l u hu (by omega))
            have HZD := Lib.hid (HZ.out.below (Below.refl _ w2).drew)
            have HLzD := Lib.hid (show Below W.heap.size W w2.drew from HLz.out.drew)
            have z0 := HZ.out.rk.cell
            have zb := HZ.out.rk.hd.lt
            have zle := HZ.out.rk.le
            obtain ⟨nz, hnz⟩ : ∃ nz, l.length = nz := ⟨_, rfl⟩
            have HNZ := Lib.hid hnz
            rw [hnz] at z0 HZL zle lenz
            clear hnz
            go_wp2_with fail
            go_region_held3 (fun w' => w'.cell? ⟨bR, 0, none⟩ = some (.slice Al nz capl)) (first | exact z0 | exact q0 | go_keep) (first | (go_at_call 18; refine (HZL.out _ HZD.out.rc).mono ?_; rintro e w5 ⟨rfl, rfl⟩) | (go_at_call 20; refine (HZO.out _ HZD.out.rc).mono ?_; rintro e w6 ⟨v6, rfl, hO6, hb6⟩; obtain ⟨A6, c6, e6, hI6⟩ := hO6.ints; rw [HNZ.out] at e6; subst e6; have HI6 := Lib.hid hI6; have HZ6 := Lib.hid (HZD.out.below hb6); have HL6 := Lib.hid (HLzD.out.trans (hb6.mono HLzD.out.size)); have q0 := HZ6.out.rk.cell; rw [HNZ.out] at q0; have qb := HZ6.out.rk.hd.lt; have HIN := Lib.hid (Ints_yes A6 Al c6 capl (cI l) w6 HI6.out HZ6.out.rk.at_ (by rw [cI_len, HNZ.out]; omega)); rw [cI_len, HNZ.out] at HIN; clear hO6 hb6 hI6) | (go_at_call 19; refine HIN.out.mono ?_; rintro e w7 ⟨rfl, m7, rfl⟩))
            have HB7 := Lib.hid (show Below w6.heap.size w6 (w6.drewN m7) from ⟨rfl, rfl, rfl, Nat.le_refl _, fun _ _ => rfl⟩)
            have HZ7 := Lib.hid (HZ6.out.below HB7.out)
            have HL7 := Lib.hid (HL6.out.trans (HB7.out.mono HL6.out.size))
            go_wp2
            go_roundw
            case rel => exact ⟨j + 1, l, Al, capl, by omega, by go_num, HZ7.out, HTT.out, HL7.out⟩
            case measure => simp [intOf]; omega
        by_cases d2 : d = 2
        · subst d2
          have HC1 := Lib.hid (Oldest_T bP bM l wr HI.out.rc)
          have HTT := Lib.hid (show l.length ≤ j + 1 by have := HN.out; omega)
          have HQ := Lib.hid (fun u (hu : RK u bR (two bP bM) l Al capl) => rOldest_any bR (two bP bM) l Al capl u hu)
          generalize (l.head?.map fun (x : Nat) => (x : Int)).getD 0 = qa at *
          generalize l.head?.isSome = qr at *
          have hq1 : (qa != qa) = false := by simp
          have hq2 : (qr != qr) = false := by simp
          go_wp2_with fail
          refine HC1.out.mono ?_
          rintro e w2 ⟨rfl, hb2⟩
          have HZ := Lib.hid (HI.out.below hb2)
          have HLz := Lib.hid (HL.out.trans (hb2.mono HL.out.size))
          clear hb2 HC1
          go_wp2_with fail
          refine (HQ.out _ HZ.out.rk).mono ?_
          rintro e w3 ⟨rfl, rfl⟩
          have lenz : l.length ≤ 101 := by have := HTT.out; omega
          have HZL := Lib.hid (fun u (hu : RC u bP bM l) => Len_T bP bM l u hu (by omega))
          have HZO := Lib.hid (fun u (hu : RC u bP bM l) => Order_T bP bM l u hu (by omega))
          have HZD := Lib.hid (HZ.out.below (Below.refl _ w2).drew)
          have HLzD := Lib.hid (show Below W.heap.size W w2.drew from HLz.out.drew)
          have z0 := HZ.out.rk.cell
          have zb := HZ.out.rk.hd.lt
          have zle := HZ.out.rk.le
          obtain ⟨nz, hnz⟩ : ∃ nz, l.length = nz := ⟨_, rfl⟩
          have HNZ := Lib.hid hnz
          rw [hnz] at z0 HZL zle lenz
          clear hnz
          go_wp2_with fail
          go_region_held3 (fun w' => w'.cell? ⟨bR, 0, none⟩ = some (.slice Al nz capl)) (first | exact z0 | exact q0 | go_keep) (first | (go_at_call 18; refine (HZL.out _ HZD.out.rc).mono ?_; rintro e w5 ⟨rfl, rfl⟩) | (go_at_call 20; refine (HZO.out _ HZD.out.rc).mono ?_; rintro e w6 ⟨v6, rfl, hO6, hb6⟩; obtain ⟨A6, c6, e6, hI6⟩ := hO6.ints; rw [HNZ.out] at e6; subst e6; have HI6 := Lib.hid hI6; have HZ6 := Lib.hid (HZD.out.below hb6); have HL6 := Lib.hid (HLzD.out.trans (hb6.mono HLzD.out.size)); have q0 := HZ6.out.rk.cell; rw [HNZ.out] at q0; have qb := HZ6.out.rk.hd.lt; have HIN := Lib.hid (Ints_yes A6 Al c6 capl (cI l) w6 HI6.out HZ6.out.rk.at_ (by rw [cI_len, HNZ.out]; omega)); rw [cI_len, HNZ.out] at HIN; clear hO6 hb6 hI6) | (go_at_call 19; refine HIN.out.mono ?_; rintro e w7 ⟨rfl, m7, rfl⟩))
          have HB7 := Lib.hid (show Below w6.heap.size w6 (w6.drewN m7) from ⟨rfl, rfl, rfl, Nat.le_refl _, fun _ _ => rfl⟩)
          have HZ7 := Lib.hid (HZ6.out.below HB7.out)
          have HL7 := Lib.hid (HL6.out.trans (HB7.out.mono HL6.out.size))
          go_wp2
          go_roundw
          case rel => exact ⟨j + 1, l, Al, capl, by omega, by go_num, HZ7.out, HTT.out, HL7.out⟩
          case measure => simp [intOf]; omega
        by_cases d3 : d = 3
        · subst d3
          have HTT := Lib.hid (show l.length ≤ j + 1 by have := HN.out; omega)
          obtain ⟨qa, qr, h1, h2⟩ : ∃ (qa : Int) (qr : Bool), (Calls Try.prog 16 #[.pointer (some ⟨bP, 0, none⟩), .int .i64 k] wr fun e w' => e = .returned (.tuple #[.int .i64 qa, .bool qr]) ∧ Below wr.heap.size wr w') ∧ ∀ u, RK u bR (two bP bM) l Al capl → Calls Try.prog 17 #[.pointer (some ⟨bR, 0, none⟩), .int .i64 k] u fun e w' => e = .returned (.tuple #[.int .i64 qa, .bool qr]) ∧ u = w' := by
            by_cases q : ∃ x : Nat, x ∈ l ∧ (x : Int) = k
            · obtain ⟨x, hx, rfl⟩ := q
              obtain ⟨i, hi⟩ := List.getElem?_of_mem hx
              exact ⟨_, _, Newer_at bP bM l wr HI.out.rc i x hi, fun u hu => rNewer_at bR (two bP bM) l Al capl u hu i x hi HI.out.rc.nd (by have := HN.out; omega)⟩
            · have hno : ∀ x : Nat, x ∈ l → (x : Int) ≠ k := fun x hx e => q ⟨x, hx, e⟩
              exact ⟨0, false, Newer_no bP bM l wr HI.out.rc k HKK.out hno, fun u hu => rNewer_no bR (two bP bM) l Al capl u hu k hno (by have := HN.out; omega)⟩
          have HC1 := Lib.hid h1
          have HQ := Lib.hid h2
          have hq1 : (qa != qa) = false := by simp
          have hq2 : (qr != qr) = false := by simp
          clear h1 h2
          go_wp2_with fail
          refine HC1.out.mono ?_
          rintro e w2 ⟨rfl, hb2⟩
          have HZ := Lib.hid (HI.out.below hb2)
          have hl2 := HL.out.trans (hb2.mono HL.out.size)
          have HLz := Lib.hid hl2
          have y1 := HC1'.out _ hl2
          have yb := HBW.out _ hl2
          clear hb2 HC1 hl2
          go_wp2_with fail
          refine (HQ.out _ HZ.out.rk).mono ?_
          rintro e w3 ⟨rfl, rfl⟩
          have lenz : l.length ≤ 101 := by have := HTT.out; omega
          have HZL := Lib.hid (fun u (hu : RC u bP bM l) => Len_T bP bM l u hu (by omega))
          have HZO := Lib.hid (fun u (hu : RC u bP bM l) => Order_T bP bM l u hu (by omega))
          have HZD := Lib.hid (HZ.out.below (Below.refl _ w2).drew)
          have HLzD := Lib.hid (show Below W.heap.size W w2.drew from HLz.out.drew)
          have z0 := HZ.out.rk.cell
          have zb := HZ.out.rk.hd.lt
          have zle := HZ.out.rk.le
          obtain ⟨nz, hnz⟩ : ∃ nz, l.length = nz := ⟨_, rfl⟩
          have HNZ := Lib.hid hnz
          rw [hnz] at z0 HZL zle lenz
          clear hnz
          go_wp2_with fail
          go_region_held3 (fun w' => w'.cell? ⟨bR, 0, none⟩ = some (.slice Al nz capl)) (first | exact z0 | exact q0 | go_keep) (first | (go_at_call 18; refine (HZL.out _ HZD.out.rc).mono ?_; rintro e w5 ⟨rfl, rfl⟩) | (go_at_call 20; refine (HZO.out _ HZD.out.rc).mono ?_; rintro e w6 ⟨v6, rfl, hO6, hb6⟩; obtain ⟨A6, c6, e6, hI6⟩ := hO6.ints; rw [HNZ.out] at e6; subst e6; have HI6 := Lib.hid hI6; have HZ6 := Lib.hid (HZD.out.below hb6); have HL6 := Lib.hid (HLzD.out.trans (hb6.mono HLzD.out.size)); have q0 := HZ6.out.rk.cell; rw [HNZ.out] at q0; have qb := HZ6.out.rk.hd.lt; have HIN := Lib.hid (Ints_yes A6 Al c6 capl (cI l) w6 HI6.out HZ6.out.rk.at_ (by rw [cI_len, HNZ.out]; omega)); rw [cI_len, HNZ.out] at HIN; clear hO6 hb6 hI6) | (go_at_call 19; refine HIN.out.mono ?_; rintro e w7 ⟨rfl, m7, rfl⟩))
          have HB7 := Lib.hid (show Below w6.heap.size w6 (w6.drewN m7) from ⟨rfl, rfl, rfl, Nat.le_refl _, fun _ _ => rfl⟩)
          have HZ7 := Lib.hid (HZ6.out.below HB7.out)
          have HL7 := Lib.hid (HL6.out.trans (HB7.out.mono HL6.out.size))
          go_wp2
          go_roundw
          case rel => exact ⟨j + 1, l, Al, capl, by omega, by go_num, HZ7.out, HTT.out, HL7.out⟩
          case measure => simp [intOf]; omega
        have t0 : (d == 0) = false := by simp [d0]
        have t1 : (d == 1) = false := by simp [d1]
        have t2 : (d == 2) = false := by simp [d2]
        have t3 : (d == 3) = false := by simp [d3]
        have HTT := Lib.hid (show l.length ≤ j + 1 by have := HN.out; omega)
        clear d0 d1 d2 d3
        have lenz : l.length ≤ 101 := by have := HTT.out; omega
        have HZL := Lib.hid (fun u (hu : RC u bP bM l) => Len_T bP bM l u hu (by omega))
        have HZO := Lib.hid (fun u (hu : RC u bP bM l) => Order_T bP bM l u hu (by omega))
        have HZD := Lib.hid (HI.out.below (Below.refl _ wr).drew)
        have HLzD := Lib.hid (show Below W.heap.size W wr.drew from HL.out.drew)
        have z0 := HI.out.rk.cell
        have zb := HI.out.rk.hd.lt
        have zle := HI.out.rk.le
        obtain ⟨nz, hnz⟩ : ∃ nz, l.length = nz := ⟨_, rfl⟩
        have HNZ := Lib.hid hnz
        rw [hnz] at z0 HZL zle lenz
        clear hnz
        go_wp2_with fail
        go_region_held3 (fun w' => w'.cell? ⟨bR, 0, none⟩ = some (.slice Al nz capl)) (first | exact z0 | exact q0 | go_keep) (first | (go_at_call 18; refine (HZL.out _ HZD.out.rc).mono ?_; rintro e w5 ⟨rfl, rfl⟩) | (go_at_call 20; refine (HZO.out _ HZD.out.rc).mono ?_; rintro e w6 ⟨v6, rfl, hO6, hb6⟩; obtain ⟨A6, c6, e6, hI6⟩ := hO6.ints; rw [HNZ.out] at e6; subst e6; have HI6 := Lib.hid hI6; have HZ6 := Lib.hid (HZD.out.below hb6); have HL6 := Lib.hid (HLzD.out.trans (hb6.mono HLzD.out.size)); have q0 := HZ6.out.rk.cell; rw [HNZ.out] at q0; have qb := HZ6.out.rk.hd.lt; have HIN := Lib.hid (Ints_yes A6 Al c6 capl (cI l) w6 HI6.out HZ6.out.rk.at_ (by rw [cI_len, HNZ.out]; omega)); rw [cI_len, HNZ.out] at HIN; clear hO6 hb6 hI6) | (go_at_call 19; refine HIN.out.mono ?_; rintro e w7 ⟨rfl, m7, rfl⟩))
        have HB7 := Lib.hid (show Below w6.heap.size w6 (w6.drewN m7) from ⟨rfl, rfl, rfl, Nat.le_refl _, fun _ _ => rfl⟩)
        have HZ7 := Lib.hid (HZ6.out.below HB7.out)
        have HL7 := Lib.hid (HL6.out.trans (HB7.out.mono HL6.out.size))
        go_wp2
        go_roundw
        case rel => exact ⟨j + 1, l, Al, capl, by omega, by go_num, HZ7.out, HTT.out, HL7.out⟩
        case measure => simp [intOf]; omega
      · go_wp2_with fail
        refine (live_any _).mono ?_
        rintro e w6 ⟨rfl, hb⟩
        have HB8 := Lib.hid (HL.out.trans (hb.mono HL.out.size))
        clear hb
        go_wp2
        go_ret
        exact ⟨rfl, HB8.out⟩
theorem walk (A : Option Addr) (len cap : Nat) {W : World} (hops : IsOps W A len cap) :
    Calls Try.prog 3 #[.slice A len cap] W fun e w' => e = .returned (.bool true) ∧ Below W.heap.size W w' := main A len cap hops

theorem own : ownKnob Try.prog.godebug = none := by kernel_rfl
theorem laidOut : laidOutB Try.prog = true := by kernel_rfl
theorem contract (H : Type) (enc : TypeId × Value → H) (W : World) (base : Nat) (args : Array Value) (ds gs : List (DataW H)) (before : List MemPlace)
    (hval : ∀ (j : Nat) t v, Try.f3.params[j]? = some t → args[j]? = some v → Value.okWide Try.prog W .any base t v)
    (hW : DataW.Whole enc Try.prog Try.f3.params.toList Rows.recentScriptsSpec.vars false W args.toList ds gs before) :
    Calls Try.prog 3 args W fun e W' => ∃ v, e = .returned v ∧ Rows.recentScriptsSpec.post enc Try.prog Try.f3 false true false false W args v W' := by
  have hW' := hW
  obtain ⟨p, q, hA0, hV, rfl, hfz, hnd⟩ := hW
  have hA : DataW.TrodAll enc Try.prog W 0 (fun _ => true) true Try.f3.params.toList args.toList ds p := hA0
  rw [Try.params3] at hA hval
  obtain ⟨v0, vs0, d0, ds0, p0, q0, hargs, rfl, rfl, h0, r0⟩ := trodAll_cons hA
  obtain ⟨rfl, rfl, rfl⟩ := trodAll_nil r0
  obtain rfl : args = #[v0] := by cases args; simp_all
  obtain ⟨rfl, rfl⟩ := trodVars_none hV
  have k0 := h0
  have lt0 : ∀ x ∈ p0, x.block < W.heap.size := by obtain ⟨m, hm⟩ := k0; exact DataW.trod_lt m _ _ _ hm
  obtain ⟨a0, len0, cap0, rfl, w0⟩ := open_ops (hval 0 22 v0 rfl rfl) h0
  clear hA0
  refine (walk a0 len0 cap0 w0).mono fun e W' ⟨he, bel⟩ => ?_
  subst he
  exact ⟨_, rfl, _, _, _, [], _, [], hW', trodAll_mk1 (shut_bool Try.underlying4 _), (trodAll_cons_mk (Below.trod laidOut (by kernel_rfl) (of_decide_eq_true (by kernel_rfl)) k0 bel lt0) trodAll_mk0), rfl, bel.frame _, fun h => by cases h⟩

set_option maxRecDepth 100000 in
theorem lifted (os : Os) (started : os.Started) (H : Type) (enc : TypeId × Value → H) :
    ReturnsInHanded {} Try.checked os 3 .any (Rows.recentScriptsSpec.pre6 enc Try.prog Try.f3 Rows.recentScriptsRow.domain false) (Rows.recentScriptsSpec.post enc Try.prog Try.f3 false true false false) := by
  refine returnsInHanded_of_change (C := Try.checked) own started (by kernel_rfl) Try.func3
    (ChangeSpec.witness6 (enc := enc) (C := Try.checked) false ⟨#[], #[.slice none 0 0], []⟩ 8 (by kernel_rfl) (by kernel_rfl) (by kernel_rfl) (by kernel_rfl)) ?_
  intro W base args ds gs before hval hW _ _
  exact contract H enc W base args ds gs before hval hW

theorem over : Rows.recentScriptsRow.holds Try.pinned (OpenSpec.ofChange Rows.recentScriptsSpec) :=
  OpenClaim.holds_of_wide 3 Try.f3 rfl rfl rfl rfl rfl rfl rfl ⟨rfl, rfl, rfl, rfl, rfl⟩ rfl rfl rfl rfl rfl (by kernel_rfl) Try.func3 (by kernel_rfl)
    (of_decide_eq_true (by kernel_rfl)) (by unfold Func.isWrapper; first | (rw [if_pos (by decide +kernel)]; kernel_rfl) | (rw [if_neg (by decide +kernel)]; exact ⟨rfl, rfl⟩))
    (fun os started H enc _ => lifted os started H enc)
end Go.Proofs.Ytjkejlnelkckgaa.recentScripts
namespace Go.Proofs.Ytjkejlnelkckgaa
theorem recentScripts_proved : Rows.RecentScriptsSaid := recentScripts.over
end Go.Proofs.Ytjkejlnelkckgaa

