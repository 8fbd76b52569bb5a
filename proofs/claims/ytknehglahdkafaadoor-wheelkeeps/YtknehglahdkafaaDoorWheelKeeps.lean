/- For all lists of calls and all numbers the law WheelKeeps returns true: an id that is added is the last one of its row, and of no other; all others stand as they stood (of at most 60 calls, else only the document's examples are asked). -/
import Derived.Test.YtknehglahdkafaaDoorSpread
import Derived.Test.YtknehglahdkafaaDoorWheelOnce1
import Derived.Test.YtknehglahdkafaaDoorRows
import Derived.Deep.RegionHeld3
namespace Go.Proofs.YtknehglahdkafaaDoor.wheelKeeps
open Go.ChangeShapes Go.WideShapes Go.ChangeAt Go.RowKit
set_option linter.unusedVariables false

/-- The rows of before, kept in an array. -/
structure Was (W w : World) (bP bM bA : Nat) (R : Nat → List Nat) (vs : List Value) (t : Nat) : Prop where
  ar : Has w bA 27 vs
  ln : vs.length = 64
  at_ : ∀ s, s < t → ∃ v, vs[s]? = some v ∧ Own1 W.heap.size 3 w v (idsV (R s)) ∧ ∀ b, v.ownBlock = some b → b ≠ bP ∧ b ≠ bM ∧ b ≠ bA
  ge : W.heap.size ≤ bA
  ne : bA ≠ bP ∧ bA ≠ bM
section
variable {W w w' : World} {bP bM bA : Nat} {R : Nat → List Nat} {vs : List Value} {t : Nat}
theorem Was.kept (h : Was W w bP bM bA R vs t) (hk : Kept (two bP bM) w w') : Was W w' bP bM bA R vs t :=
  ⟨h.ar.kept hk (fun e => by rcases e with e | e; exact h.ne.1 e; exact h.ne.2 e), h.ln, fun s hs => by
    obtain ⟨v, h1, h2, h3⟩ := h.at_ s hs
    exact ⟨v, h1, h2.kept hk (fun b hb e => by rcases e with e | e; exact (h3 b hb).1 e; exact (h3 b hb).2.1 e), h3⟩, h.ge, h.ne⟩
theorem Was.below (h : Was W w bP bM bA R vs t) (hb : Below w.heap.size w w') : Was W w' bP bM bA R vs t := h.kept (Kept.of_below hb)
theorem Was.more (h : Was W w bP bM bA R vs t) (ht : t < 64) {v : Value} (hv : Own1 W.heap.size 3 w v (idsV (R t))) (hn : ∀ b, v.ownBlock = some b → b ≠ bP ∧ b ≠ bM ∧ b ≠ bA) : Was W (w.setCell ⟨bA, t, none⟩ v) bP bM bA R (vs.set t v) (t + 1) := by
  have hk : Kept (fun x => x = bA) w (w.setCell ⟨bA, t, none⟩ v) := (Kept.refl (fun x => x = bA) w).setCell (p := ⟨bA, t, none⟩) (.inl rfl) v
  refine ⟨h.ar.store t v, by rw [List.length_set]; exact h.ln, fun s hs => ?_, h.ge, h.ne⟩
  by_cases e : s = t
  · subst e
    exact ⟨v, by rw [List.getElem?_set_self (by rw [h.ln]; exact ht)], hv.kept hk (fun b hb q => (hn b hb).2.2 q), hn⟩
  · obtain ⟨u, h1, h2, h3⟩ := h.at_ s (by omega)
    exact ⟨u, by rw [List.getElem?_set_ne (fun q => e q.symm)]; exact h1, h2.kept hk (fun b hb q => (h3 b hb).2.2 q), h3⟩
theorem Was.get (h : Was W w bP bM bA R vs 64) {t : Nat} (ht : t < 64) : ∃ A cap, w.cell? ⟨bA, t, none⟩ = some (.slice A (R t).length cap) ∧ IntsAt w A cap ((R t).map fun (x : Nat) => (x : Int)) := by
  obtain ⟨v, h1, h2, h3⟩ := h.at_ t ht
  obtain ⟨A, cap, rfl, hI⟩ := h2.ints
  exact ⟨A, cap, by rw [h.ar.cell t, h1], hI⟩
theorem ownsRow_lower' {w : World} {b b' : Nat} {e : TypeId} {v : Value} {n : Nat} {xs : List Value} (h : w.ownsRow b e 1 v n xs) (hb : b' ≤ b) : w.ownsRow b' e 1 v n xs := by
  obtain ⟨h1, h2 | ⟨g, cap, cur, rfl, hg, h3⟩⟩ := h
  · exact ⟨h1, .inl h2⟩
  · exact ⟨h1, .inr ⟨g, cap, cur, rfl, Nat.le_trans hb hg, h3⟩⟩
theorem own_is {g n c b : Nat} (h : (Value.slice (some ⟨g, 0, none⟩) n c).ownBlock = some b) : b = g := by simpa [Value.ownBlock] using h.symm
theorem Wh.congr {R' : Nat → List Nat} (h : Wh w bP bM R) (e : ∀ i, i < 64 → R i = R' i) : Wh w bP bM R' := by
  obtain ⟨s, a, b⟩ := h
  exact ⟨s, a, b.congr e⟩
end
/-- Any id dropped: it is in no row then. -/
theorem Drop_K (bP bM : Nat) (R : Nat → List Nat) (w : World) (h : Wh w bP bM R) (k : Int) (hk : I64 k) (hn : tot R 64 ≤ 1000) : Calls Tryd.prog 16 #[.pointer (some ⟨bP, 0, none⟩), .int .i64 k] w fun e w' => ∃ (r : Bool) (R' : Nat → List Nat), e = .returned (.bool r) ∧ Wh w' bP bM R' ∧ Kept (two bP bM) w w' ∧ tot R' 64 ≤ tot R 64 ∧ ∀ i, i < 64 → ∀ x : Nat, x ∈ R' i → (x : Int) ≠ k := by
  by_cases h0 : 0 ≤ k
  · obtain ⟨x, rfl⟩ := Int.eq_ofNat_of_zero_le h0
    obtain ⟨r, hr⟩ : ∃ r : Bool, r = true ↔ ∃ i, i < 64 ∧ x ∈ R i := by
      by_cases q : ∃ i, i < 64 ∧ x ∈ R i
      · exact ⟨true, by simp [q]⟩
      · exact ⟨false, by simp; exact fun i hi hx => q ⟨i, hi, hx⟩⟩
    exact (Drop_T bP bM R w h x hk hn r hr).mono fun e w' ⟨h1, h2, h3⟩ => ⟨r, _, h1, h2, h3, dropR_tot R x 64, fun i hi y hy e => (dropR_mem.1 hy).2 (by omega)⟩
  · exact (Drop_neg bP bM R w h k hk (fun i hi x hx e => by omega)).mono fun e w' ⟨h1, h2⟩ => ⟨false, R, h1, h.below h2, Kept.of_below h2, Nat.le_refl _, fun i hi x hx e => by omega⟩
set_option maxRecDepth 100000 in
set_option maxHeartbeats 4000000 in
theorem main (A : Option Addr) (len cap : Nat) (slot id : Int) {W : World} (hops : IsOps W A len cap) (hsl : I64 slot) (hid : I64 id) (ht : TabW W) :
    Calls Tryd.prog 5 #[.slice A len cap, .int .i64 slot, .int .i64 id] W fun e w' => e = .returned (.bool true) ∧ Below W.heap.size W w' := by
  have hlm : len ≤ 9223372036854775807 := by have := hops.2.1; have := hops.1; unfold maxLen at *; omega
  have hlc := hops.1
  have HOPS := Lib.hid hops
  have HT := Lib.hid ht
  have HSL := Lib.hid hsl
  have HID := Lib.hid hid
  clear hops ht hsl hid
  go_enter Tryd.func5, Tryd.ntmps5
  go_wp2_with fail
  refine (New_T W).mono ?_
  rintro e w1 ⟨bP, bM, rfl, hW, hB, h1, h2⟩
  have HW := Lib.hid hW
  have HB := Lib.hid hB
  have HBK := Lib.hid (fun w' w'' (h : Below W.heap.size W w') (k : Kept (two bP bM) w' w'') => h.trans (k.below (B := W.heap.size) h.size (fun i hi hf => by rcases hf with rfl | rfl <;> omega)))
  have HGE := Lib.hid (And.intro h1 h2)
  clear hW hB h1 h2
  by_cases h60 : 60 < len
  · go_wp2_with fail
    refine (live_any _ (HT.out.below HB.out)).mono ?_
    rintro e w6 ⟨rfl, hb⟩
    have HB8 := Lib.hid (HB.out.trans (hb.mono HB.out.size))
    clear hb
    go_wp2
    go_ret
    exact ⟨rfl, HB8.out⟩
  · have t60 : decide ((60 : Int) < (len : Int)) = false := by simp; omega
    go_wp2_with fail
    go_loopw [8] (fun i wr => ∃ (j : Nat) (R : Nat → List Nat), j ≤ len ∧ i = .int .i64 (j : Int) ∧ Wh wr bP bM R ∧ tot R 64 ≤ j ∧ Below W.heap.size W wr) (fun i _ => len - (intOf i).toNat)
    case atStart => exact ⟨0, _, Nat.zero_le _, rfl, HW.out, by decide +kernel, HB.out⟩
    case round =>
      obtain ⟨j, R, hj, rfl, hI, hn, hL⟩ := hrel
      have HI := Lib.hid hI
      have HL := Lib.hid hL
      have HN := Lib.hid hn
      clear hI hL hn HW HB
      by_cases hlt : j < len
      · obtain ⟨b, off, rfl, hb, hall⟩ := HOPS.out.2.2 (by omega)
        obtain ⟨d, sl, k, ho⟩ := hall j hlt
        clear hall
        have c1 := (HL.out.cell (p := ⟨b, off + j * 3 + 1, none⟩) hb).trans ho.c1
        have c2 := (HL.out.cell (p := ⟨b, off + j * 3 + 2, none⟩) hb).trans ho.c2
        have HO := Lib.hid ho
        clear ho
        have HC := Lib.hid (Add_W bP bM R wr.drew (HI.out.below (Below.refl _ _).drew) sl k (by have := HN.out; omega))
        go_wp2_with fail
        go_region_held3 (fun w' => w'.cell? ⟨b, off + j * 3 + 1, none⟩ = some (.int .i64 sl) ∧ w'.cell? ⟨b, off + j * 3 + 2, none⟩ = some (.int .i64 k)) (first | exact ⟨c1, c2⟩ | exact ⟨x1, x2⟩ | go_keep) (first | (go_at_call 15; refine HC.out.mono ?_; rintro e w2 ⟨v2, R2, rfl, hW, hK, hT⟩; have HW2 := Lib.hid hW; have HT2 := Lib.hid hT; have HL2 := Lib.hid (HBK.out _ _ HL.out.drew hK); have x1 := (HL2.out.cell (p := ⟨b, off + j * 3 + 1, none⟩) hb).trans HO.out.c1; have x2 := (HL2.out.cell (p := ⟨b, off + j * 3 + 2, none⟩) hb).trans HO.out.c2; clear hW hK hT HC))
        go_wp2
        go_roundw
        case rel => exact ⟨j + 1, R2, by omega, by go_num, HW2.out, by have := HT2.out; have := HN.out; omega, HL2.out⟩
        case measure => simp [intOf]; omega
      · have hn : tot R 64 ≤ 60 := by have := HN.out; omega
        have HC := Lib.hid (Drop_K bP bM R wr HI.out id HID.out (by omega))
        go_wp2_with fail
        refine HC.out.mono ?_
        rintro e w2 ⟨r2, R2, rfl, hW, hK, hT, hno⟩
        have HW2 := Lib.hid hW
        have hn2 : tot R2 64 ≤ 60 := by omega
        have HNO := Lib.hid hno
        have HL2 := Lib.hid (HBK.out _ _ HL.out hK)
        clear hW hK hT hno HC HI HL HN hn
        have HA0 := Lib.hid (fun (z : List Value) (hz : z.length = 64) => show Was W (w2.alloc (.cells z.toArray 27)) bP bM w2.heap.size R2 z 0 from
          ⟨Has.made w2 _ z, hz, (fun s hs => absurd hs (by omega)), HL2.out.size, ⟨by have := HW2.out.lt; omega, by have := HW2.out.lt; omega⟩⟩)
        have HA1 := Lib.hid (HW2.out.below ((Below.refl _ w2).alloc (Nat.le_refl _) (.cells (List.replicate 64 (.slice none 0 0)).toArray 27)))
        have HA2 := Lib.hid (HL2.out.alloc HL2.out.size (.cells (List.replicate 64 (.slice none 0 0)).toArray 27))
        go_wp2_with fail
        go_loopw [10] (fun i10 wx => ∃ (t : Nat) (vs : List Value), t ≤ 64 ∧ i10 = .int .i64 (t : Int) ∧ Was W wx bP bM w2.heap.size R2 vs t ∧ Wh wx bP bM R2 ∧ Below W.heap.size W wx) (fun i10 _ => 64 - (intOf i10).toNat)
        case atStart => exact ⟨0, List.replicate 64 (.slice none 0 0), by omega, rfl, HA0.out (List.replicate 64 (.slice none 0 0)) (by simp), HA1.out, HA2.out⟩
        case round =>
          clear HA0 HA1 HA2
          obtain ⟨t, vs, ht64, rfl, hA, hW, hL⟩ := hrel
          have HA := Lib.hid hA
          have HW := Lib.hid hW
          have HL := Lib.hid hL
          clear hA hW hL HW2 HL2
          generalize w2.heap.size = bA at *
          by_cases hlt2 : t < 64
          · have HRO := Lib.hid (Row_T bP bM R2 wr HW.out t hlt2 (by omega))
            go_wp2_with fail
            refine HRO.out.mono ?_
            rintro e w3 ⟨v3, rfl, hO, hb⟩
            obtain ⟨A3, cap3, e3⟩ := hO.sl
            rw [idsV_len] at e3
            subst e3
            have hA3 := HA.out.below hb
            obtain ⟨u0, hu0⟩ : ∃ u0, vs[t]? = some u0 := ⟨_, List.getElem?_eq_getElem (by rw [hA3.ln]; exact hlt2)⟩
            have d0 := hA3.ar.cell t
            rw [hu0] at d0
            have l0 := hA3.ar.loose t
            have hbA := hA3.ar.lt
            have HB4 := Lib.hid (hA3.more hlt2 ⟨ownsRow_lower' hO.1 HL.out.size, hO.2⟩ (fun b hb' => by
              have h1 := hO.ge hb'
              have h2 := HW.out.lt
              have h3 := HA.out.ar.lt
              exact ⟨by omega, by omega, by omega⟩))
            have HK4 := Lib.hid (show Kept (fun x => x = bA) w3 (w3.setCell ⟨bA, t, none⟩ (.slice A3 (R2 t).length cap3)) from (Kept.refl (fun x => x = bA) w3).setCell (p := ⟨bA, t, none⟩) (.inl rfl) _)
            have HW4 := Lib.hid ((HW.out.below hb).kept HK4.out (fun e => HA.out.ne.1 e.symm) (fun e => HA.out.ne.2 e.symm))
            have HL4 := Lib.hid ((HL.out.trans (hb.mono HL.out.size)).trans (HK4.out.below (HL.out.trans (hb.mono HL.out.size)).size (fun k hk e => by have := HA.out.ge; omega)))
            clear hO hb hA3 hu0 HK4 HA HW HL HRO
            generalize (R2 t).length = nn at *
            go_wp2
            go_roundw
            case rel => exact ⟨t + 1, _, by omega, by go_num, HB4.out, HW4.out, HL4.out⟩
            case measure => simp [intOf]; omega
          · obtain rfl : t = 64 := by omega
            by_cases hok : 0 ≤ slot ∧ slot < 64 ∧ 0 ≤ id ∧ id ≤ 1048575
            · obtain ⟨g1, g2, g3, g4⟩ := hok
              obtain ⟨i, rfl⟩ := Int.eq_ofNat_of_zero_le g1
              obtain ⟨x, rfl⟩ := Int.eq_ofNat_of_zero_le g3
              have hi : i < 64 := by omega
              have HC := Lib.hid (Add_T bP bM R2 wr HW.out i x hi (by omega) (by omega))
              have HXN := Lib.hid (show ∀ a, a < 64 → x ∉ R2 a from fun a ha hm => HNO.out a ha x hm rfl)
              have HCG := Lib.hid (show ∀ a, a < 64 → addR R2 i x a = upd R2 i (R2 i ++ [x]) a from fun a ha => by
                unfold addR upd
                by_cases q : a = i
                · subst q
                  rw [if_pos rfl, if_pos rfl, show dropR R2 x a = R2 a from filter_not (HXN.out a ha)]
                · rw [if_neg q, if_neg q]; exact filter_not (HXN.out a ha))
              clear g1 g2 g3
              go_wp2_with fail
              refine HC.out.mono ?_
              rintro e w3 ⟨rfl, hW3, hK3⟩
              have HW3 := Lib.hid (Wh.congr hW3 HCG.out)
              have HA3 := Lib.hid (HA.out.kept hK3)
              have HL3 := Lib.hid (HBK.out _ _ HL.out hK3)
              have ht3 : tot (upd R2 i (R2 i ++ [x])) 64 ≤ 61 := by have := tot_upd R2 i (R2 i ++ [x]) 64 hi; simp at this; omega
              clear hW3 hK3 HA HW HL HC HCG
              go_wp2_with fail
              go_loopw [14] (fun i14 wx => ∃ t : Nat, t ≤ 64 ∧ i14 = .int .i64 (t : Int) ∧ Was W wx bP bM bA R2 vs 64 ∧ Wh wx bP bM (upd R2 i (R2 i ++ [x])) ∧ Below W.heap.size W wx) (fun i14 _ => 64 - (intOf i14).toNat)
              case atStart => exact ⟨0, by omega, rfl, HA3.out, HW3.out, HL3.out⟩
              case round =>
                clear HA3 HW3 HL3
                obtain ⟨t, ht, rfl, hA, hW, hL⟩ := hrel
                have HA := Lib.hid hA
                have HW := Lib.hid hW
                have HL := Lib.hid hL
                clear hA hW hL
                by_cases hlt3 : t < 64
                · obtain ⟨At, capt, d0, hI0⟩ := HA.out.get hlt3
                  have HI0 := Lib.hid hI0
                  have hcp := hI0.1
                  rw [List.length_map] at hcp
                  have hbA := HA.out.ar.lt
                  have hrl : (R2 t).length ≤ 60 := Nat.le_trans (row_le R2 t 64 hlt3) hn2
                  clear hI0
                  by_cases hti : t = i
                  · subst hti
                    obtain ⟨ln, hln⟩ : ∃ ln, (R2 t).length = ln := ⟨_, rfl⟩
                    have HLN := Lib.hid hln
                    rw [hln] at d0 hcp hrl
                    clear hln
                    have HR5 := Lib.hid (fun (u : World) (hu : Wh u bP bM (upd R2 t (R2 t ++ [x]))) => Row_T bP bM _ u hu t hlt3 (by omega))
                    rw [upd_same] at HR5
                    go_wp2_with (at_builtin; refine wpList_append_ints wr wr.heap.size rfl [] rfl _ _ rfl At ln capt (R2 t) 0 rfl rfl rfl HLN.out (NatsAt.of_ints HI0.out) (by omega) ?_)
                    intro g4 cap4 w4 rest4 hg hcm hh hl hb
                    have HB4 := Lib.hid hb
                    have hsz4 := hb.size
                    have HO4 := Lib.hid (show w4.ownsRow wr.heap.size 3 1 (.slice (some ⟨g4, 0, none⟩) ln cap4) ln (idsV (R2 t)) from Has.owns hh (by rw [idsV_len]; exact HLN.out) (by omega) hcm hg)
                    have HIL := Lib.hid (show (idsV (R2 t)).length = ln by rw [idsV_len]; exact HLN.out)
                    clear hh hl hb
                    go_wp2_with (at_builtin; refine wpList_append_row1 w4 w4.heap.size rfl rfl _ _ rfl _ (.int .i64 (x : Int)) (idsV (R2 t)) ln HIL.out rfl rfl rfl HO4.out hsz4 (by omega) ?_)
                    intro g5 cap5 w5 ho5 hk5 hg5 hl5
                    have HB5 := Lib.hid (show Below wr.heap.size wr w5 from HB4.out.trans (hk5.below hsz4 (fun b hb e => absurd hb (by rw [own_is e]; omega))))
                    have HO5 := Lib.hid (show Own1 wr.heap.size 3 w5 (.slice (some ⟨g5, 0, none⟩) (ln + 1) cap5) (idsV (R2 t ++ [x])) from by
                      have e : idsV (R2 t ++ [x]) = idsV (R2 t) ++ [.int .i64 (x : Int)] := by simp [idsV]
                      rw [e]; exact ho5)
                    have HW5 := Lib.hid (HW.out.below HB5.out)
                    have HA5 := Lib.hid (HA.out.below HB5.out)
                    have HL5 := Lib.hid (HL.out.trans (HB5.out.mono HL.out.size))
                    obtain ⟨A5, c5, e5, hI5⟩ := HO5.out.ints
                    rw [show (R2 t ++ [x]).length = ln + 1 by simp [HLN.out]] at e5
                    injection e5 with e5 _ e6
                    subst e5
                    subst e6
                    have HI5 := Lib.hid hI5
                    have HR6 := Lib.hid (HR5.out w5 HW5.out)
                    clear ho5 hk5 hg5 hl5 hI5 HB4 HO4 HW HA HL HI0 HB5 HO5 HR5
                    go_wp2_with fail
                    refine HR6.out.mono ?_
                    rintro e w6 ⟨v6, rfl, hO6, hb6⟩
                    obtain ⟨A6, cap6, rfl, hI6⟩ := hO6.ints
                    have HIY := Lib.hid (Ints_yes A6 (some ⟨g5, 0, none⟩) cap6 cap5 ((R2 t ++ [x]).map fun (x : Nat) => (x : Int)) w6 hI6 (HI5.out.below hb6) (by simp [HLN.out]; omega))
                    rw [List.length_map, show (R2 t ++ [x]).length = ln + 1 by simp [HLN.out]] at HIY
                    rw [show (R2 t ++ [x]).length = ln + 1 by simp [HLN.out]]
                    have HW6 := Lib.hid (HW5.out.below hb6)
                    have HA6 := Lib.hid (HA5.out.below hb6)
                    have HL6 := Lib.hid (HL5.out.trans (hb6.mono HL5.out.size))
                    clear hO6 hb6 hI6 HI5 HW5 HA5 HL5 HR6
                    go_wp2_with fail
                    refine HIY.out.mono ?_
                    rintro e w7 ⟨rfl, m7, rfl⟩
                    have hd7 : Below w6.heap.size w6 (w6.drewN m7) := ⟨rfl, rfl, rfl, Nat.le_refl _, fun _ _ => rfl⟩
                    have HW7 := Lib.hid (HW6.out.below hd7)
                    have HA7 := Lib.hid (HA6.out.below hd7)
                    have HL7 := Lib.hid (HL6.out.trans (hd7.mono HL6.out.size))
                    clear hd7 HW6 HA6 HL6 HIY
                    go_wp2
                    go_roundw
                    case rel => exact ⟨t + 1, by omega, by go_num, HA7.out, HW7.out, HL7.out⟩
                    case measure => simp [intOf]; omega
                  · have tti : ((t : Int) == (i : Int)) = false := by simp; omega
                    have tti2 : (t == i) = false := by simp; exact hti
                    have HR5 := Lib.hid (Row_T bP bM _ wr HW.out t hlt3 (by omega))
                    rw [upd_other R2 _ hti] at HR5
                    obtain ⟨ln, hln⟩ : ∃ ln, (R2 t).length = ln := ⟨_, rfl⟩
                    have HLN := Lib.hid hln
                    rw [hln] at d0 hcp hrl
                    clear hln
                    go_wp2_with fail
                    refine HR5.out.mono ?_
                    rintro e w6 ⟨v6, rfl, hO6, hb6⟩
                    obtain ⟨A6, cap6, rfl, hI6⟩ := hO6.ints
                    have HIY := Lib.hid (Ints_yes A6 At cap6 capt ((R2 t).map fun (x : Nat) => (x : Int)) w6 hI6 (HI0.out.below hb6) (by rw [List.length_map, HLN.out]; omega))
                    rw [List.length_map, HLN.out] at HIY
                    rw [HLN.out]
                    have HW6 := Lib.hid (HW.out.below hb6)
                    have HA6 := Lib.hid (HA.out.below hb6)
                    have HL6 := Lib.hid (HL.out.trans (hb6.mono HL.out.size))
                    clear hO6 hb6 hI6 HI0 HW HA HL HR5
                    go_wp2_with fail
                    refine HIY.out.mono ?_
                    rintro e w7 ⟨rfl, m7, rfl⟩
                    have hd7 : Below w6.heap.size w6 (w6.drewN m7) := ⟨rfl, rfl, rfl, Nat.le_refl _, fun _ _ => rfl⟩
                    have HW7 := Lib.hid (HW6.out.below hd7)
                    have HA7 := Lib.hid (HA6.out.below hd7)
                    have HL7 := Lib.hid (HL6.out.trans (hd7.mono HL6.out.size))
                    clear hd7 HW6 HA6 HL6 HIY
                    go_wp2
                    go_roundw
                    case rel => exact ⟨t + 1, by omega, by go_num, HA7.out, HW7.out, HL7.out⟩
                    case measure => simp [intOf]; omega
                · have HDR := Lib.hid (Drop_T bP bM _ wr HW.out x (by unfold I64; omega) (by omega) true ⟨fun _ => ⟨i, hi, by rw [upd_same]; simp⟩, fun _ => rfl⟩)
                  have HCG := Lib.hid (show ∀ a, a < 64 → dropR (upd R2 i (R2 i ++ [x])) x a = R2 a from fun a ha => by
                    unfold dropR
                    by_cases q : a = i
                    · subst q
                      rw [upd_same, List.filter_append, filter_not (HXN.out a ha)]
                      simp
                    · rw [upd_other R2 _ q]; exact filter_not (HXN.out a ha))
                  go_wp2_with fail
                  refine HDR.out.mono ?_
                  rintro e w4 ⟨rfl, hW4, hK4⟩
                  have HW4 := Lib.hid (Wh.congr hW4 HCG.out)
                  have HA4 := Lib.hid (HA.out.kept hK4)
                  have HL4 := Lib.hid (HBK.out _ _ HL.out hK4)
                  clear hW4 hK4 HA HW HL HDR HCG
                  go_wp2_with fail
                  go_loopw [17] (fun i17 wx => ∃ t : Nat, t ≤ 64 ∧ i17 = .int .i64 (t : Int) ∧ Was W wx bP bM bA R2 vs 64 ∧ Wh wx bP bM R2 ∧ Below W.heap.size W wx) (fun i17 _ => 64 - (intOf i17).toNat)
                  case atStart => exact ⟨0, by omega, rfl, HA4.out, HW4.out, HL4.out⟩
                  case round =>
                    clear HA4 HW4 HL4
                    obtain ⟨t, ht, rfl, hA, hW, hL⟩ := hrel
                    have HA := Lib.hid hA
                    have HW := Lib.hid hW
                    have HL := Lib.hid hL
                    clear hA hW hL
                    by_cases hlt4 : t < 64
                    · obtain ⟨At, capt, d0, hI0⟩ := HA.out.get hlt4
                      have HI0 := Lib.hid hI0
                      have hcp := hI0.1
                      rw [List.length_map] at hcp
                      have hbA := HA.out.ar.lt
                      have hrl : (R2 t).length ≤ 60 := Nat.le_trans (row_le R2 t 64 hlt4) hn2
                      have HR5 := Lib.hid (Row_T bP bM _ wr.drew (HW.out.below (Below.refl _ _).drew) t hlt4 (by omega))
                      obtain ⟨ln, hln⟩ : ∃ ln, (R2 t).length = ln := ⟨_, rfl⟩
                      have HLN := Lib.hid hln
                      rw [hln] at d0 hcp hrl
                      clear hln hI0
                      go_wp2_with fail
                      go_region_held3 (fun w' => w'.cell? ⟨bA, t, none⟩ = some (.slice At ln capt)) (first | exact d0 | exact d1 | exact d2 | go_keep) (first | (go_at_call 19; refine HR5.out.mono ?_; rintro e w6 ⟨v6, rfl, hO6, hb6⟩; obtain ⟨A6, cap6, e6, hI6⟩ := hO6.ints; rw [HLN.out] at e6; subst e6; have hb6' : Below wr.heap.size wr w6 := ⟨hb6.os, hb6.tape, hb6.output, hb6.size, hb6.block⟩; have HIY := Lib.hid (Ints_yes A6 At cap6 capt ((R2 t).map fun (x : Nat) => (x : Int)) w6 hI6 (HI0.out.below hb6') (by rw [List.length_map, HLN.out]; omega)); rw [List.length_map, HLN.out] at HIY; have HW6 := Lib.hid (HW.out.below hb6'); have HA6 := Lib.hid (HA.out.below hb6'); have HL6 := Lib.hid (HL.out.trans (hb6'.mono HL.out.size)); have d1 := (hb6'.cell (p := ⟨bA, t, none⟩) hbA).trans d0; clear hO6 hb6 hb6' hI6 HR5) | (go_at_call 21; refine HIY.out.mono ?_; rintro e w7 ⟨rfl, m7, rfl⟩; have hd7 : Below w6.heap.size w6 (w6.drewN m7) := ⟨rfl, rfl, rfl, Nat.le_refl _, fun _ _ => rfl⟩; have HW7 := Lib.hid (HW6.out.below hd7); have HA7 := Lib.hid (HA6.out.below hd7); have HL7 := Lib.hid (HL6.out.trans (hd7.mono HL6.out.size)); have d2 : (w6.drewN m7).cell? ⟨bA, t, none⟩ = some (.slice At ln capt) := d1; clear hd7 HW6 HA6 HL6 HIY))
                      go_wp2
                      go_roundw
                      case rel => exact ⟨t + 1, by omega, by go_num, HA7.out, HW7.out, HL7.out⟩
                      case measure => simp [intOf]; omega
                    · go_wp2_with fail
                      refine (live_any _ (HT.out.below HL.out)).mono ?_
                      rintro e w6 ⟨rfl, hb⟩
                      have HB8 := Lib.hid (HL.out.trans (hb.mono HL.out.size))
                      clear hb
                      go_wp2
                      go_ret
                      exact ⟨rfl, HB8.out⟩
            · have HC := Lib.hid (Add_no bP bM R2 wr HW.out slot id hok)
              have HWN := Lib.hid (Where_no bP bM R2 wr HW.out id HID.out HNO.out)
              clear hok
              go_wp2_with fail
              refine HC.out.mono ?_
              rintro e w3 ⟨rfl, rfl⟩
              go_wp2_with fail
              refine HWN.out.mono ?_
              rintro e w3 ⟨rfl, hb⟩
              have HL3 := Lib.hid (HL.out.trans (hb.mono HL.out.size))
              clear hb
              go_wp2_with fail
              refine (live_any _ (HT.out.below HL3.out)).mono ?_
              rintro e w6 ⟨rfl, hb⟩
              have HB8 := Lib.hid (HL3.out.trans (hb.mono HL3.out.size))
              clear hb
              go_wp2
              go_ret
              exact ⟨rfl, HB8.out⟩
theorem walk (A : Option Addr) (len cap : Nat) (a b : Int) {W : World} (hops : IsOps W A len cap) (ha : (Lit.int .i64 a).wf = true) (hb : (Lit.int .i64 b).wf = true) (ht : TabW W) :
    Calls Tryd.prog 5 #[.slice A len cap, .int .i64 a, .int .i64 b] W fun e w' => e = .returned (.bool true) ∧ Below W.heap.size W w' := main A len cap a b hops (wf_I64 ha) (wf_I64 hb) ht

theorem own : ownKnob Tryd.prog.godebug = none := by kernel_rfl
theorem laidOut : laidOutB Tryd.prog = true := by kernel_rfl
theorem contract (H : Type) (enc : TypeId × Value → H) (W : World) (base : Nat) (args : Array Value) (ds gs : List (DataW H)) (before : List MemPlace)
    (hval : ∀ (j : Nat) t v, Tryd.f5.params[j]? = some t → args[j]? = some v → Value.okWide Tryd.prog W .any base t v)
    (hW : DataW.Whole enc Tryd.prog Tryd.f5.params.toList Rows.wheelKeepsSpec.vars false W args.toList ds gs before) (hL : laidMetH Tryd.prog Rows.wheelKeepsRow.laid W) :
    Calls Tryd.prog 5 args W fun e W' => ∃ v, e = .returned v ∧ Rows.wheelKeepsSpec.post enc Tryd.prog Tryd.f5 false true false false W args v W' := by
  have hW' := hW
  obtain ⟨p, q, hA0, hV, rfl, hfz, hnd⟩ := hW
  have hA : DataW.TrodAll enc Tryd.prog W 0 (fun _ => true) true Tryd.f5.params.toList args.toList ds p := hA0
  rw [Tryd.params5] at hA hval
  obtain ⟨v0, vs0, d0, ds0, p0, q0, hargs, rfl, rfl, h0, r0⟩ := trodAll_cons hA
  obtain ⟨v1, vs1, d1, ds1, p1, q1, rfl, rfl, rfl, h1, r1⟩ := trodAll_cons r0
  obtain ⟨v2, vs2, d2, ds2, p2, q2, rfl, rfl, rfl, h2, r2⟩ := trodAll_cons r1
  obtain ⟨rfl, rfl, rfl⟩ := trodAll_nil r2
  obtain rfl : args = #[v0, v1, v2] := by cases args; simp_all
  obtain ⟨rfl, rfl⟩ := trodVars_none hV
  have k0 := h0
  have lt0 : ∀ x ∈ p0, x.block < W.heap.size := by obtain ⟨m, hm⟩ := k0; exact DataW.trod_lt m _ _ _ hm
  obtain ⟨a0, len0, cap0, rfl, w0⟩ := open_ops (hval 0 22 v0 rfl rfl) h0
  obtain ⟨a1, rfl, rfl, rfl, w1⟩ := open_int Tryd.underlying3 (hval 1 3 v1 rfl rfl) h1
  obtain ⟨a2, rfl, rfl, rfl, w2⟩ := open_int Tryd.underlying3 (hval 2 3 v2 rfl rfl) h2
  clear hA0
  refine (walk a0 len0 cap0 a1 a2 w0 w1 w2 (tabW_of hL)).mono fun e W' ⟨he, bel⟩ => ?_
  subst he
  exact ⟨_, rfl, _, _, _, [], _, [], hW', trodAll_mk1 (shut_bool Tryd.underlying4 _), (trodAll_cons_mk (Below.trod laidOut (by kernel_rfl) (of_decide_eq_true (by kernel_rfl)) k0 bel lt0) (trodAll_cons_mk (shut_int Tryd.underlying3 w1) (trodAll_cons_mk (shut_int Tryd.underlying3 w2) trodAll_mk0))), rfl, bel.frame _, fun h => by cases h⟩

theorem laid_met (os : Os) : laidMet Tryd.prog Rows.wheelKeepsRow.laid ((laidWorld os).forCall (fun _ _ => 0) ⟨#[], #[.slice none 0 0, .int .i64 0, .int .i64 0], []⟩).memory :=
  laidMet_of_run' 8 (by kernel_rfl) (by kernel_rfl)
theorem reads (os : Os) {H : Type} (enc : TypeId × Value → H) : ∃ places, DataW.whole enc Tryd.prog ((laidWorld os).forCall (fun _ _ => 0) ⟨#[], #[.slice none 0 0, .int .i64 0, .int .i64 0], []⟩).memory Tryd.f5.params.toList Rows.wheelKeepsSpec.vars false (#[.slice none 0 0, .int .i64 0, .int .i64 0] : Array Value).toList 8 = some ([.nil, .lit (.int .i64 0), .lit (.int .i64 0)], [], places) :=
  ⟨[], by kernel_rfl⟩

set_option maxRecDepth 100000 in
theorem lifted (os : Os) (started : os.Started) (H : Type) (enc : TypeId × Value → H) (F : Stop.Interp) :
    ReturnsInHanded {} Tryd.checked os 5 .any ((OpenSpec.ofChange Rows.wheelKeepsSpec).preRow enc Tryd.prog Tryd.f5 Rows.wheelKeepsRow.domain false Rows.wheelKeepsRow.laid) (((OpenSpec.ofChange Rows.wheelKeepsSpec).at F).post enc Tryd.prog Tryd.f5 false true false false) := by
  obtain ⟨places, hx⟩ := reads os enc
  refine returnsInHanded_of_row (C := Tryd.checked) (s := OpenSpec.ofChange Rows.wheelKeepsSpec) own started (by kernel_rfl) Tryd.func5
    (witness_row_at (enc := enc) (C := Tryd.checked) false (laidWorld os) #[.slice none 0 0, .int .i64 0, .int .i64 0] rfl (by kernel_rfl) (by kernel_rfl) (by kernel_rfl)
      (OpenSpec.preRow_of_cond 8 hx (by kernel_rfl) (fun k hk => by cases hk) (by kernel_rfl) (laid_met os))) ?_
  intro W base args ds gs before hval hW _ _ _ hL _ _
  exact contract H enc W base args ds gs before hval hW hL

theorem said : Rows.WheelKeepsSaid :=
  OpenClaim.holds_of_cond 5 Tryd.f5 rfl rfl rfl rfl rfl rfl rfl ⟨rfl, rfl, rfl, rfl, rfl⟩ rfl rfl rfl rfl rfl (by kernel_rfl) Tryd.func5 (by kernel_rfl)
    (of_decide_eq_true (by kernel_rfl)) (by unfold Func.isWrapper; first | (rw [if_pos (by decide +kernel)]; kernel_rfl) | (rw [if_neg (by decide +kernel)]; exact ⟨rfl, rfl⟩))
    (fun os started H enc _ F => by rw [OpenClaim.pre_eq_preRow]; exact lifted os started H enc F)
theorem plain (f : FuncId) (fn : Func) (hf : Tryd.pinned.checked.prog.funcNamed Rows.wheelKeepsRow.func = some f) (hfn : Tryd.pinned.checked.prog.funcs[f]? = some fn) :
    false = Tryd.pinned.checked.prog.looks [] ∧ ∀ (j : Nat) t, fn.params[j]? = some t → Tryd.pinned.checked.prog.wantsStandIn t = false := by
  obtain rfl : f = 5 := Option.some.inj ((show Tryd.prog.funcNamed Rows.wheelKeepsRow.func = some 5 by kernel_rfl).symm.trans hf) |>.symm
  obtain rfl : fn = Tryd.f5 := (Option.some.inj (Tryd.func5.symm.trans hfn)).symm
  refine ⟨by kernel_rfl, fun j t ht => ?_⟩
  rw [Tryd.params5] at ht
  have hm := Array.mem_of_getElem? ht
  simp only [List.mem_toArray, List.mem_cons, List.not_mem_nil, or_false] at hm
  rcases hm with rfl | rfl | rfl
  · exact (show Tryd.prog.wantsStandIn 22 = false by kernel_rfl)
  · exact (show Tryd.prog.wantsStandIn 3 = false by kernel_rfl)
  · exact (show Tryd.prog.wantsStandIn 3 = false by kernel_rfl)
theorem card : Rows.WheelKeepsCardSaid :=
  Claim7.holds_tied_plain_at .later [] _ _ _ _ said (fun _ h => by cases h) (by kernel_rfl) (fun _ h => by cases h) wheelKeeps_row_tie rfl ⟨rfl, rfl⟩ (by kernel_rfl) rfl plain (by kernel_rfl)
end Go.Proofs.YtknehglahdkafaaDoor.wheelKeeps
namespace Go.Proofs.YtknehglahdkafaaDoor
theorem wheelKeeps_proved : Rows.WheelKeepsCardSaid := wheelKeeps.card
end Go.Proofs.YtknehglahdkafaaDoor

