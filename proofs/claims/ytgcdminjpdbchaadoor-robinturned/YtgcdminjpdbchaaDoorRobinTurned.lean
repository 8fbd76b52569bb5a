/- For every seed and all keys the law RobinTurned returns true: keys that are put in one order, or in the opposite one, use the same slots, and at each of them the same Dist, as long as not all slots are used. -/
import Derived.Test.YtgcdminjpdbchaaDoorRbM5
import Derived.Test.YtgcdminjpdbchaaDoorRbT
import Derived.Test.YtgcdminjpdbchaaDoorRbW
import Derived.Test.YtgcdminjpdbchaaDoorStrs
import Derived.Test.YtgcdminjpdbchaaDoorRbLive
import Derived.Test.YtgcdminjpdbchaaDoorHashTab
import Derived.Test.YtgcdminjpdbchaaDoorRows
namespace Go.Proofs.YtgcdminjpdbchaaDoor.robinTurned
open Go.ChangeShapes Go.WideShapes Go.ChangeAt Go.RowKit
set_option linter.unusedVariables false

/-- A map has just those of some keys that may be. -/
def KS (len : Nat) (L : Nat → ByteArray) (P : Nat → Prop) (M : ByteArray → Option Int) : Prop := ∀ k, (M k).isSome = true ↔ ∃ i, i < len ∧ P i ∧ L i = k ∧ 1 ≤ k.size ∧ k.size ≤ 33
theorem ks_none (len : Nat) (L : Nat → ByteArray) {P : Nat → Prop} (h : ∀ i, i < len → ¬ P i) : KS len L P (fun _ => none) := fun k => ⟨fun q => by simp at q, fun ⟨i, a, b, _⟩ => absurd b (h i a)⟩
theorem ks_put {len n c j : Nat} {L : Nat → ByteArray} {P Q : Nat → Prop} {M : ByteArray → Option Int} (h : KS len L P M) (hj : j < len) (hc : c < n) (v : Int) (hQ : ∀ i, i < len → (Q i ↔ P i ∨ i = j)) : KS len L Q (putR n M c (L j) v).2.1 ∧ (putR n M c (L j) v).2.2 ≤ c + 1 := by
  have main : ∀ M' : ByteArray → Option Int, (∀ k, (M' k).isSome = true ↔ (M k).isSome = true ∨ (k = L j ∧ 1 ≤ k.size ∧ k.size ≤ 33)) → KS len L Q M' := by
    intro M' hM k
    rw [hM, h k]
    constructor
    · rintro (⟨i, a, b, d⟩ | ⟨e, d⟩)
      · exact ⟨i, a, (hQ i a).2 (.inl b), d⟩
      · exact ⟨j, hj, (hQ j hj).2 (.inr rfl), e.symm, d⟩
    · rintro ⟨i, a, b, e, d⟩
      rcases (hQ i a).1 b with b | rfl
      · exact .inl ⟨i, a, b, e, d⟩
      · exact .inr ⟨e.symm, d⟩
  unfold putR
  by_cases hv : 1 ≤ (L j).size ∧ (L j).size ≤ 33
  · rw [if_pos hv]
    have hu : ∀ k, ((upd M (L j) (some v)) k).isSome = true ↔ (M k).isSome = true ∨ (k = L j ∧ 1 ≤ k.size ∧ k.size ≤ 33) := fun k => by
      by_cases e : k = L j
      · subst e
        rw [upd_same]
        simp [hv]
      · rw [upd_other _ _ e]
        simp [e]
    by_cases hs : (M (L j)).isSome = true
    · rw [if_pos hs]; exact ⟨main _ hu, by simp⟩
    · rw [if_neg hs, if_neg (by omega)]; exact ⟨main _ hu, Nat.le_refl _⟩
  · rw [if_neg hv]
    refine ⟨main _ (fun k => ?_), by simp⟩
    constructor
    · exact .inl
    · rintro (q | ⟨e, d⟩)
      · exact q
      · subst e; exact absurd d hv
theorem ks_same {len : Nat} {L : Nat → ByteArray} {P Q : Nat → Prop} {M M' : ByteArray → Option Int} (h : KS len L P M) (h' : KS len L Q M') (hPQ : ∀ i, i < len → (P i ↔ Q i)) (k : ByteArray) : (M k).isSome = (M' k).isSome := by
  have : (M k).isSome = true ↔ (M' k).isSome = true := by
    rw [h k, h' k]
    exact ⟨fun ⟨i, a, b, d⟩ => ⟨i, a, (hPQ i a).1 b, d⟩, fun ⟨i, a, b, d⟩ => ⟨i, a, (hPQ i a).2 b, d⟩⟩
  cases h1 : (M k).isSome <;> cases h2 : (M' k).isSome <;> simp_all
theorem cnt_u {s t : List RS} (hl : s.length = t.length) (h : ∀ i, i < s.length → (atS s i).u = (atS t i).u) : cnt s = cnt t := by
  have e : s.map (fun x => x.u) = t.map (fun x => x.u) := by
    apply List.ext_getElem (by simp [hl])
    intro i h1 h2
    rw [List.length_map] at h1 h2
    have := h i h1
    rw [atS_el h1, atS_el h2] at this
    simpa using this
  have f : ∀ l : List RS, cnt l = ((l.map fun x => x.u).filter id).length := fun l => by
    unfold cnt
    rw [List.filter_map, List.length_map]
    rfl
  rw [f, f, e]
/-- Two tables of the same keys. -/
structure Tw (w : World) (aP aS bP bS seed : Nat) (s t : List RS) (c : Nat) (M M' : ByteArray → Option Int) : Prop where
  a : Tb w aP aS seed 5 (2 ^ 5) s
  b : Tb w bP bS seed 5 (2 ^ 5) t
  ha : ∀ k v, HasK (2 ^ 5) s k v ↔ M k = some v
  hb : ∀ k v, HasK (2 ^ 5) t k v ↔ M' k = some v
  ca : cnt s = c
  cb : cnt t = c
  ud : ∀ i, i < 32 → (atS s i).u = (atS t i).u ∧ (atS s i).d = (atS t i).d
theorem tw_of {w : World} {aP aS bP bS seed ca cb : Nat} {M M' : ByteArray → Option Int} (h : TT w aP aS seed 5 M ca) (h' : TT w bP bS seed 5 M' cb) (he : ∀ k, (M k).isSome = (M' k).isSome) : ca = cb ∧ ∃ s t, Tw w aP aS bP bS seed s t ca M M' := by
  obtain ⟨s, a, b, d⟩ := h
  obtain ⟨t, a', b', d'⟩ := h'
  have hk : ∀ k, (∃ v, HasK (2 ^ 5) s k v) ↔ (∃ v, HasK (2 ^ 5) t k v) := fun k => by
    have := he k
    constructor
    · rintro ⟨v, hv⟩
      rw [(b k v).1 hv] at this
      obtain ⟨v', hv'⟩ := Option.isSome_iff_exists.1 this.symm
      exact ⟨v', (b' k v').2 hv'⟩
    · rintro ⟨v, hv⟩
      rw [(b' k v).1 hv] at this
      obtain ⟨v', hv'⟩ := Option.isSome_iff_exists.1 this
      exact ⟨v', (b k v').2 hv'⟩
  have ud : ∀ i, i < 32 → (atS s i).u = (atS t i).u ∧ (atS s i).d = (atS t i).d := fun i hi => same_tables a.we a'.we (fun k v hv => (hk k).1 ⟨v, hv⟩) (fun k v hv => (hk k).2 ⟨v, hv⟩) hi
  have hc : cnt s = cnt t := cnt_u (a.we.len.trans a'.we.len.symm) (fun i hi => (ud i (by rw [a.we.len] at hi; exact hi)).1)
  exact ⟨by rw [← d, ← d', hc], s, t, a, a', b, b', d, hc ▸ d, ud⟩
def toB (x : List UInt8) : ByteArray := ⟨x.toArray⟩
/-- Both tell the same keys. -/
theorem keys_two {M : ByteArray → Option Int} {c : Nat} {w w' : World} {e : Ending} (h : KeysT M c w e w') : ∃ us : List (List UInt8), us.Nodup ∧ us.length = c ∧ (∀ k : ByteArray, k.data.toList ∈ us ↔ (M k).isSome = true) ∧ ∃ A cap, e = .returned (.slice A c cap) ∧ TxAt w' A ((us.mergeSort fun x y => decide (x ≤ y)).map toB) ∧ Below w.heap.size w w' := by
  obtain ⟨us, h1, h2, h3, v, rfl, h4, _, h5⟩ := h
  have hk : (us.map kB).Nodup := by
    have : us.map kB = (us.map fun x => x.k).map fun k => k.data.toList := by rw [List.map_map]; rfl
    rw [this]
    refine List.Pairwise.map _ ?_ h2
    intro a b hab he
    exact hab (key_ext he)
  refine ⟨us.map kB, hk, by rw [List.length_map, h1], fun k => ?_, ?_⟩
  · rw [← h3 k, List.mem_map]
    constructor
    · rintro ⟨x, hx, e⟩
      exact ⟨x, hx, key_ext e⟩
    · rintro ⟨x, hx, e⟩
      exact ⟨x, hx, by unfold kB; rw [e]⟩
  · have hl : ((us.map kB).mergeSort fun x y => decide (x ≤ y)).length = c := by rw [List.length_mergeSort, List.length_map, h1]
    rw [hl] at h4
    have h6 : ((us.map kB).mergeSort fun x y => decide (x ≤ y)).map encStr = (((us.map kB).mergeSort fun x y => decide (x ≤ y)).map toB).map Value.string := by
      rw [List.map_map]
      apply List.map_congr_left
      intro p _
      simp [encStr, toB]
    rw [h6] at h4
    obtain ⟨A, cap, e1, e2, _⟩ := tx_of h4 (by rw [List.length_map, hl])
    exact ⟨A, cap, by rw [e1], e2, h5⟩
theorem sort_same {us vs : List (List UInt8)} (h1 : us.Nodup) (h2 : vs.Nodup) (h : ∀ k : ByteArray, k.data.toList ∈ us ↔ k.data.toList ∈ vs) : (us.mergeSort fun x y => decide (x ≤ y)) = (vs.mergeSort fun x y => decide (x ≤ y)) :=
  rising_eq _ _ (rising_sort us h1) (rising_sort vs h2) (fun x => by rw [List.mem_mergeSort, List.mem_mergeSort]; exact h ⟨x.toArray⟩)
theorem TxAt.step {w w' : World} {A : Option Addr} {xs : List ByteArray} (h : TxAt w A xs) (hb : Below w.heap.size w w') : TxAt w' A xs := fun h0 => by
  obtain ⟨b, off, rfl, h1, h2⟩ := h h0
  exact ⟨b, off, rfl, Nat.lt_of_lt_of_le h1 hb.size, fun i x hx => (hb.cell (p := ⟨b, off + i, none⟩) h1).trans (h2 i x hx)⟩
theorem str_at {w : World} {A : Option Addr} {len cap : Nat} {L : Nat → ByteArray} (h : StrsAt w A len cap L) {j : Nat} (hj : j < len) : ∃ b off, A = some ⟨b, off, none⟩ ∧ b < w.heap.size ∧ ∀ i, i < len → w.cell? ⟨b, off + i, none⟩ = some (.string (L i)) := by
  obtain ⟨b, off, e, hb, hall⟩ := h.2.2 (by omega)
  exact ⟨b, off, e, hb, fun i hi => (hall i hi).1⟩
set_option maxRecDepth 100000 in
set_option maxHeartbeats 0 in
theorem walk1 (seed : Nat) (A : Option Addr) (len cap : Nat) (L : Nat → ByteArray) (hs : U seed) (W1 : World) (ho : StrsAt W1 A len cap L) (ht : TabW W1) :
    Calls Tryd.prog 9 #[.int .u64 (seed : Int), .slice A len cap] W1 fun e w' => e = .returned (.bool true) ∧ Below W1.heap.size W1 w' := by
  have HO := Lib.hid (fun w' (h : Below W1.heap.size W1 w') => ho.below h)
  have HT := Lib.hid (fun w' (h : Below W1.heap.size W1 w') => ht.below h)
  have HSD := Lib.hid hs
  have HMX := Lib.hid (fun j (hj : j < len) => show (L j).size ≤ maxLen from by obtain ⟨b, off, _, _, hall⟩ := ho.2.2 (by omega); exact (hall j hj).2)
  obtain ⟨q1, q2, _⟩ := ho
  unfold maxLen at q2
  clear ht hs
  by_cases hlen : 31 < len
  · have d1 : decide ((31 : Int) < len) = true := decide_eq_true (by omega)
    have d2 : (31 : Int) < len := by omega
    go_enter Tryd.func9, Tryd.ntmps9
    go_wp2_with fail
    refine (live_any W1 (HT.out _ (Below.refl _ _))).mono ?_
    rintro e w2 ⟨rfl, hb⟩
    go_wp2
    go_ret
    exact ⟨rfl, hb⟩
  · have d1 : decide ((31 : Int) < len) = false := decide_eq_false (by omega)
    have d2 : ¬ (31 : Int) < len := by omega
    go_enter Tryd.func9, Tryd.ntmps9
    go_wp2_with fail
    refine (New_T seed 5 W1 HSD.out (by decide) (by decide)).mono ?_
    rintro e w1 ⟨aP, aS, rfl, hTa, hBa, ha1, ha2⟩
    have HTA := Lib.hid hTa
    have HBA := Lib.hid hBa
    have lta := hTa.lt
    clear hTa hBa d1 d2
    go_wp2_with fail
    refine (New_T seed 5 w1 HSD.out (by decide) (by decide)).mono ?_
    rintro e w2 ⟨bP, bS, rfl, hTb, hBb, hb1, hb2⟩
    have ne1 : aP ≠ bS := by omega
    have ne2 : aS ≠ bS := by omega
    have ne3 : bP ≠ aS := by omega
    have hsz := HBA.out.size
    have HTA2 := Lib.hid (HTA.out.below hBb)
    have HTB2 := Lib.hid hTb
    have HB2 := Lib.hid (HBA.out.trans (hBb.mono HBA.out.size))
    have HKA := Lib.hid (fun w' w'' (h : Below W1.heap.size W1 w') (k : Kept (fun b => b = aS) w' w'') => h.trans (k.below (B := W1.heap.size) h.size (fun i hi hf => by omega)))
    have HKB := Lib.hid (fun w' w'' (h : Below W1.heap.size W1 w') (k : Kept (fun b => b = bS) w' w'') => h.trans (k.below (B := W1.heap.size) h.size (fun i hi hf => by omega)))
    have HN1 := Lib.hid ne1
    have HN2 := Lib.hid ne2
    have HN3 := Lib.hid ne3
    clear hTb hBb ha1 ha2 hb1 hb2 lta HTA HBA ne1 ne2 ne3 hsz
    go_wp2_with fail
    go_loopw [9] (fun i wr => ∃ (j : Nat) (Ma : ByteArray → Option Int) (ca : Nat) (Mb : ByteArray → Option Int) (cb : Nat), j ≤ len ∧ i = .int .i64 (j : Int) ∧ Hid (TT wr aP aS seed 5 Ma ca) ∧ Hid (TT wr bP bS seed 5 Mb cb) ∧ Hid (Below W1.heap.size W1 wr) ∧ Hid (KS len L (fun i => i < j) Ma) ∧ Hid (KS len L (fun i => len - j ≤ i) Mb) ∧ Hid (ca ≤ j ∧ cb ≤ j)) (fun i _ => len - (intOf i).toNat)
    case atStart => exact ⟨0, _, 0, _, 0, Nat.zero_le _, rfl, HTA2, HTB2, HB2, ks_none len L (fun i hi => by omega), ks_none len L (fun i hi => by omega), ⟨Nat.le_refl _, Nat.le_refl _⟩⟩
    case round =>
      obtain ⟨j, Ma, ca, Mb, cb, hj, rfl, HA, HBt, HBw, HKa, HKb, HC⟩ := hrel
      clear HTA2 HTB2 HB2
      by_cases hlt : j < len
      · obtain ⟨ob, off, rfl, hob, hall⟩ := str_at (HO.out wr HBw.out) hlt
        have c1 := hall j hlt
        have hjv : I64 (j : Int) := by unfold I64; omega
        have HJV := Lib.hid hjv
        clear hjv
        by_cases hz : 33 < (L j).size
        · have d1 : decide ((33 : Int) < ((L j).size : Int)) = true := decide_eq_true (by omega)
          have d2 : (33 : Int) < ((L j).size : Int) := by omega
          clear hall
          go_wp2_with fail
          refine (live_any wr (HT.out _ HBw.out)).mono ?_
          rintro e w3 ⟨rfl, hb⟩
          have HZ := Lib.hid (HBw.out.trans (hb.mono HBw.out.size))
          clear hb
          go_wp2
          go_ret
          exact ⟨rfl, HZ.out⟩
        · have d1 : decide ((33 : Int) < ((L j).size : Int)) = false := decide_eq_false (by omega)
          have d2 : ¬ (33 : Int) < ((L j).size : Int) := by omega
          have HP1 := Lib.hid (Put_T aP aS seed 5 Ma ca (L j) j wr HA.out (HT.out _ HBw.out) (HMX.out j hlt) HJV.out)
          have HK1 := Lib.hid (ks_put (n := 2 ^ 5) (c := ca) (Q := fun i => i < j + 1) HKa.out hlt (by have := HC.out.1; omega) (j : Int) (fun i hi => by omega))
          have HK2 := Lib.hid (ks_put (n := 2 ^ 5) (c := cb) (j := len - 1 - j) (Q := fun i => len - (j + 1) ≤ i) HKb.out (by omega) (by have := HC.out.2; omega) (j : Int) (fun i hi => by omega))
          have HL := Lib.hid (fun w' (h : Below W1.heap.size W1 w') => show w'.cell? ⟨ob, off + (len - 1 - j), none⟩ = some (.string (L (len - 1 - j))) from by
            obtain ⟨b', off', e, _, hall'⟩ := str_at (HO.out w' h) hlt
            cases e
            exact hall' _ (by omega))
          clear hall
          go_wp2_with fail
          refine HP1.out.mono ?_
          rintro e w3 ⟨rfl, hT3, hK3⟩
          have HA3 := Lib.hid hT3
          have HB3 := Lib.hid (HKA.out _ _ HBw.out hK3)
          have HBT3 := Lib.hid (HBt.out.kept hK3 HN3.out HN2.out.symm)
          have HP2 := Lib.hid (Put_T bP bS seed 5 Mb cb (L (len - 1 - j)) j w3 HBT3.out (HT.out _ HB3.out) (HMX.out _ (by omega)) HJV.out)
          have c3 := HL.out w3 HB3.out
          obtain ⟨x, hx⟩ : ∃ x, len - 1 - j = x := ⟨_, rfl⟩
          rw [hx] at c3 HP2 HK2
          have ix : (len : Int) - 1 - (j : Int) = (x : Int) := by omega
          have hxl : x < len := by omega
          have hob3 : ob < w3.heap.size := by have := hK3.size; omega
          clear hT3 hK3 c1 HP1 hx
          go_wp2_with fail
          refine HP2.out.mono ?_
          rintro e w4 ⟨rfl, hT4, hK4⟩
          have HBT4 := Lib.hid hT4
          have HB4 := Lib.hid (HKB.out _ _ HB3.out hK4)
          have HA4 := Lib.hid (HA3.out.kept hK4 HN1.out HN2.out)
          have HCC := Lib.hid (show (putR (2 ^ 5) Ma ca (L j) j).2.2 ≤ j + 1 ∧ (putR (2 ^ 5) Mb cb (L x) j).2.2 ≤ j + 1 from ⟨Nat.le_trans HK1.out.2 (by have := HC.out.1; omega), Nat.le_trans HK2.out.2 (by have := HC.out.2; omega)⟩)
          clear hT4 hK4 HA HBt HBw HKa HKb HC HA3 HB3 HBT3 HP2 c3
          go_wp2
          go_roundw
          case rel => exact ⟨j + 1, _, _, _, _, by omega, by go_num, HA4, HBT4, HB4, HK1.out.1, HK2.out.1, HCC⟩
          case measure => simp [intOf]; omega
      · obtain ⟨hcab, s, t, htw⟩ := tw_of HA.out HBt.out (ks_same HKa.out HKb.out (fun i hi => by omega))
        subst hcab
        have HISO := Lib.hid (ks_same HKa.out HKb.out (fun i hi => by omega))
        have HTW := Lib.hid htw
        have hs32 : s.length = 32 := htw.a.we.len
        have ht32 : t.length = 32 := htw.b.we.len
        have HS32 := Lib.hid hs32
        have HT32 := Lib.hid ht32
        have HSA := Lib.hid (Slots_any aP aS seed 5 _ s wr htw.a)
        clear htw hs32 ht32 HKa HKb HC
        go_wp2_with fail
        refine HSA.out.mono ?_
        rintro e w3 ⟨sv, rfl, hv, hb3⟩
        rw [HS32.out] at hv
        obtain ⟨g, gc, rfl, hgc, _, hg2, hcs⟩ := slot_cells hv HS32.out (by decide)
        have SA := Lib.hid (SlC.mk (n := 32) hg2 hcs)
        have HA3 := Lib.hid (HA.out.below hb3)
        have HBT3 := Lib.hid (HBt.out.below hb3)
        have HB3 := Lib.hid (HBw.out.trans (hb3.mono HBw.out.size))
        have HSB := Lib.hid (Slots_any bP bS seed 5 _ t w3 (HTW.out.b.below hb3))
        clear hv hcs hb3 HSA HA HBt HBw hg2
        go_wp2_with fail
        refine HSB.out.mono ?_
        rintro e w4 ⟨tv, rfl, hv, hb4⟩
        rw [HT32.out] at hv
        obtain ⟨g', gc', rfl, hgc', _, hg3, hcs⟩ := slot_cells hv HT32.out (by decide)
        have SB := Lib.hid (SlC.mk (n := 32) hg3 hcs)
        have SA4 := Lib.hid (SA.out.below hb4)
        have HA4 := Lib.hid (HA3.out.below hb4)
        have HBT4 := Lib.hid (HBT3.out.below hb4)
        have HB4 := Lib.hid (HB3.out.trans (hb4.mono HB3.out.size))
        have LA := Lib.hid (Len_T aP aS seed 5 Ma ca w4 HA4.out)
        clear hv hcs hb4 HSB HA3 HBT3 HB3 SA hg3
        go_wp2_with fail
        refine LA.out.mono ?_
        rintro e w5 ⟨rfl, hb5⟩
        have SA5 := Lib.hid (SA4.out.below hb5)
        have SB5 := Lib.hid (SB.out.below hb5)
        have HA5 := Lib.hid (HA4.out.below hb5)
        have HBT5 := Lib.hid (HBT4.out.below hb5)
        have HB5 := Lib.hid (HB4.out.trans (hb5.mono HB4.out.size))
        have LB := Lib.hid (Len_T bP bS seed 5 Mb ca w5 HBT5.out)
        clear hb5 LA SA4 SB HA4 HBT4 HB4
        go_wp2_with fail
        refine LB.out.mono ?_
        rintro e w6 ⟨rfl, hb6⟩
        have SA6 := Lib.hid (SA5.out.below hb6)
        have SB6 := Lib.hid (SB5.out.below hb6)
        have HA6 := Lib.hid (HA5.out.below hb6)
        have HBT6 := Lib.hid (HBT5.out.below hb6)
        have HB6 := Lib.hid (HB5.out.trans (hb6.mono HB5.out.size))
        have HUD := Lib.hid HTW.out.ud
        clear hb6 LB SA5 SB5 HA5 HBT5 HB5 HTW HS32 HT32 HSD HMX HO
        go_wp2_with fail
        go_loopw [12] (fun d wr => ∃ i : Nat, i ≤ 32 ∧ d = .int .i64 (i : Int) ∧ Hid (Below w6.heap.size w6 wr)) (fun d _ => 32 - (intOf d).toNat)
        case atStart => exact ⟨0, by omega, rfl, Below.refl _ _⟩
        case round =>
          obtain ⟨i, hi, rfl, HBx⟩ := hrel
          by_cases hi2 : i < 32
          · obtain ⟨x0, _, _, x3⟩ := (SA6.out.below HBx.out).at_ i hi2
            obtain ⟨y0, _, _, y3⟩ := (SB6.out.below HBx.out).at_ i hi2
            have e1 := HUD.out i hi2
            rw [← e1.1] at y0
            rw [← e1.2] at y3
            generalize (atS s i).u = u at x0 y0
            generalize (atS s i).d = d at x3 y3
            clear e1
            go_wp2_with fail
            go_quiet (fail)
            go_wp2
            go_roundw
            case rel => exact ⟨i + 1, by omega, by go_num, below_drewN HBx.out _⟩
            case measure => simp [intOf]; omega
          · have HAx := Lib.hid (HA6.out.below HBx.out)
            have HBTx := Lib.hid (HBT6.out.below HBx.out)
            have HBBx := Lib.hid (HB6.out.trans (HBx.out.mono HB6.out.size))
            have KA := Lib.hid (Keys_T aP aS seed 5 Ma ca wr HAx.out)
            clear SA6 SB6 HA6 HBT6 HB6 HUD HBx HAx
            go_wp2_with fail
            refine KA.out.mono ?_
            intro e w7 hk
            obtain ⟨us, u1, u2, u3, A1, cp1, rfl, hx1, hb7⟩ := keys_two hk
            have X1 := Lib.hid hx1
            have U1 := Lib.hid u1
            have U2 := Lib.hid u2
            have U3 := Lib.hid u3
            have HBT7 := Lib.hid (HBTx.out.below hb7)
            have HB7 := Lib.hid (HBBx.out.trans (hb7.mono HBBx.out.size))
            have KB := Lib.hid (Keys_T bP bS seed 5 Mb ca w7 HBT7.out)
            clear hk hx1 u1 u2 u3 hb7 KA HBTx HBBx
            go_wp2_with fail
            refine KB.out.mono ?_
            intro e w8 hk
            obtain ⟨vs, v1, v2, v3, A2, cp2, rfl, hx2, hb8⟩ := keys_two hk
            have hss := sort_same U1.out v1 (fun k => by rw [U3.out k, v3 k, HISO.out k])
            rw [← hss] at hx2
            have hlq : ((us.mergeSort fun x y => decide (x ≤ y)).map toB).length = ca := by rw [List.length_map, List.length_mergeSort]; exact U2.out
            have hca : ca ≤ 32 := HBT7.out.le
            have TY := Lib.hid (Texts_yes A1 A2 ca cp1 cp2 _ w8 hlq (by omega) (TxAt.step X1.out hb8) hx2)
            have HB8 := Lib.hid (HB7.out.trans (hb8.mono HB7.out.size))
            clear hk hx2 v1 v2 v3 hb8 hss hlq KB HBT7 HB7 X1 U1 U2 U3 HISO
            go_wp2_with fail
            refine TY.out.mono ?_
            rintro e w9 ⟨rfl, m, rfl⟩
            have HB9 := Lib.hid (below_drewN HB8.out m)
            have HLV := Lib.hid (live_any (w8.drewN m) (HT.out _ HB9.out))
            clear TY HB8
            go_wp2_with (first | (go_at_call 11; refine HLV.out.mono ?_; rintro e wz ⟨rfl, hbz⟩; have HBZ := Lib.hid (HB9.out.trans (hbz.mono HB9.out.size)); clear hbz))
            go_ret
            exact ⟨rfl, HBZ.out⟩
theorem walk {W : World} (s : Int) (a : Option Addr) (len cap : Nat) (hs : (Lit.int .u64 s).wf = true) (ho : IsStrs W a len cap) (ht : TabW W) :
    Calls Tryd.prog 9 #[.int .u64 s, .slice a len cap] W fun e w' => e = .returned (.bool true) ∧ Below W.heap.size W w' := by
  obtain ⟨n, rfl, hn⟩ := wf_u hs
  obtain ⟨L, hL⟩ := ho
  exact walk1 n a len cap L hn W hL ht

theorem own : ownKnob Tryd.prog.godebug = none := by kernel_rfl
theorem laidOut : laidOutB Tryd.prog = true := by kernel_rfl
theorem contract (H : Type) (enc : TypeId × Value → H) (W : World) (base : Nat) (args : Array Value) (ds gs : List (DataW H)) (before : List MemPlace)
    (hval : ∀ (j : Nat) t v, Tryd.f9.params[j]? = some t → args[j]? = some v → Value.okWide Tryd.prog W .any base t v)
    (hW : DataW.Whole enc Tryd.prog Tryd.f9.params.toList Rows.robinTurnedSpec.vars false W args.toList ds gs before) (hL : laidMetH Tryd.prog Rows.robinTurnedRow.laid W) :
    Calls Tryd.prog 9 args W fun e W' => ∃ v, e = .returned v ∧ Rows.robinTurnedSpec.post enc Tryd.prog Tryd.f9 false true false false W args v W' := by
  have hW' := hW
  obtain ⟨p, q, hA0, hV, rfl, hfz, hnd⟩ := hW
  have hA : DataW.TrodAll enc Tryd.prog W 0 (fun _ => true) true Tryd.f9.params.toList args.toList ds p := hA0
  rw [Tryd.params9] at hA hval
  obtain ⟨v0, vs0, d0, ds0, p0, q0, hargs, rfl, rfl, h0, r0⟩ := trodAll_cons hA
  obtain ⟨v1, vs1, d1, ds1, p1, q1, rfl, rfl, rfl, h1, r1⟩ := trodAll_cons r0
  obtain ⟨rfl, rfl, rfl⟩ := trodAll_nil r1
  obtain rfl : args = #[v0, v1] := by cases args; simp_all
  obtain ⟨rfl, rfl⟩ := trodVars_none hV
  obtain ⟨a0, rfl, rfl, rfl, w0⟩ := open_int Tryd.underlying22 (hval 0 22 v0 rfl rfl) h0
  have k1 := h1
  have lt1 : ∀ x ∈ p1, x.block < W.heap.size := by obtain ⟨m, hm⟩ := k1; exact DataW.trod_lt m _ _ _ hm
  obtain ⟨a1, len1, cap1, rfl, w1⟩ := open_strs (hval 1 41 v1 rfl rfl) h1
  clear hA0
  refine (walk a0 a1 len1 cap1 w0 w1 (tabW_of hL)).mono fun e W' ⟨he, bel⟩ => ?_
  subst he
  exact ⟨_, rfl, _, _, _, [], _, [], hW', trodAll_mk1 (shut_bool Tryd.underlying4 _), (trodAll_cons_mk (shut_int Tryd.underlying22 w0) (trodAll_cons_mk (Below.trod laidOut (by kernel_rfl) (of_decide_eq_true (by kernel_rfl)) k1 bel lt1) trodAll_mk0)), rfl, bel.frame _, fun h => by cases h⟩

theorem laid_met (os : Os) : laidMet Tryd.prog Rows.robinTurnedRow.laid ((laidWorld os).forCall (fun _ _ => 0) ⟨#[], #[.int .u64 0, .slice none 0 0], []⟩).memory :=
  laidMet_of_run' 8 (by kernel_rfl) (by kernel_rfl)
theorem reads (os : Os) {H : Type} (enc : TypeId × Value → H) : ∃ places, DataW.whole enc Tryd.prog ((laidWorld os).forCall (fun _ _ => 0) ⟨#[], #[.int .u64 0, .slice none 0 0], []⟩).memory Tryd.f9.params.toList Rows.robinTurnedSpec.vars false (#[.int .u64 0, .slice none 0 0] : Array Value).toList 8 = some ([.lit (.int .u64 0), .nil], [], places) :=
  ⟨[], by kernel_rfl⟩

set_option maxRecDepth 100000 in
theorem lifted (os : Os) (started : os.Started) (H : Type) (enc : TypeId × Value → H) (F : Stop.Interp) :
    ReturnsInHanded {} Tryd.checked os 9 .any ((OpenSpec.ofChange Rows.robinTurnedSpec).preRow enc Tryd.prog Tryd.f9 Rows.robinTurnedRow.domain false Rows.robinTurnedRow.laid) (((OpenSpec.ofChange Rows.robinTurnedSpec).at F).post enc Tryd.prog Tryd.f9 false true false false) := by
  obtain ⟨places, hx⟩ := reads os enc
  refine returnsInHanded_of_row (C := Tryd.checked) (s := OpenSpec.ofChange Rows.robinTurnedSpec) own started (by kernel_rfl) Tryd.func9
    (witness_row_at (enc := enc) (C := Tryd.checked) false (laidWorld os) #[.int .u64 0, .slice none 0 0] rfl (by kernel_rfl) (by kernel_rfl) (by kernel_rfl)
      (OpenSpec.preRow_of_cond 8 hx (by kernel_rfl) (fun k hk => by cases hk) (by kernel_rfl) (laid_met os))) ?_
  intro W base args ds gs before hval hW _ _ _ hL _ _
  exact contract H enc W base args ds gs before hval hW hL

theorem said : Rows.RobinTurnedSaid :=
  OpenClaim.holds_of_cond 9 Tryd.f9 rfl rfl rfl rfl rfl rfl rfl ⟨rfl, rfl, rfl, rfl, rfl⟩ rfl rfl rfl rfl rfl (by kernel_rfl) Tryd.func9 (by kernel_rfl)
    (of_decide_eq_true (by kernel_rfl)) (by unfold Func.isWrapper; first | (rw [if_pos (by decide +kernel)]; kernel_rfl) | (rw [if_neg (by decide +kernel)]; exact ⟨rfl, rfl⟩))
    (fun os started H enc _ F => by rw [OpenClaim.pre_eq_preRow]; exact lifted os started H enc F)
theorem plain (f : FuncId) (fn : Func) (hf : Tryd.pinned.checked.prog.funcNamed Rows.robinTurnedRow.func = some f) (hfn : Tryd.pinned.checked.prog.funcs[f]? = some fn) :
    false = Tryd.pinned.checked.prog.looks [] ∧ ∀ (j : Nat) t, fn.params[j]? = some t → Tryd.pinned.checked.prog.wantsStandIn t = false := by
  obtain rfl : f = 9 := Option.some.inj ((show Tryd.prog.funcNamed Rows.robinTurnedRow.func = some 9 by kernel_rfl).symm.trans hf) |>.symm
  obtain rfl : fn = Tryd.f9 := (Option.some.inj (Tryd.func9.symm.trans hfn)).symm
  refine ⟨by kernel_rfl, fun j t ht => ?_⟩
  rw [Tryd.params9] at ht
  have hm := Array.mem_of_getElem? ht
  simp only [List.mem_toArray, List.mem_cons, List.not_mem_nil, or_false] at hm
  rcases hm with rfl | rfl
  · exact (show Tryd.prog.wantsStandIn 22 = false by kernel_rfl)
  · exact (show Tryd.prog.wantsStandIn 41 = false by kernel_rfl)
theorem card : Rows.RobinTurnedCardSaid :=
  Claim7.holds_tied_plain_at .later [] _ _ _ _ said (fun _ h => by cases h) (by kernel_rfl) (fun _ h => by cases h) robinTurned_row_tie rfl ⟨rfl, rfl⟩ (by kernel_rfl) rfl plain (by kernel_rfl)
end Go.Proofs.YtgcdminjpdbchaaDoor.robinTurned
namespace Go.Proofs.YtgcdminjpdbchaaDoor
theorem robinTurned_proved : Rows.RobinTurnedCardSaid := robinTurned.card
end Go.Proofs.YtgcdminjpdbchaaDoor

