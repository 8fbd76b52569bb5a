/- The contract of a table's Put. -/
import Derived.Test.YtgcdminjpdbchaaDoorRb3
import Derived.Deep.RegionHeld3
namespace Go.Proofs.YtgcdminjpdbchaaDoor
open Go.ChangeShapes Go.WideShapes Go.ChangeAt Go.RowKit
set_option linter.unusedVariables false

theorem usedL_cnt {s : List RS} {n : Nat} (h : s.length = n) : (usedL s n).length = cnt s := by unfold usedL cnt; rw [← h, List.take_length]
theorem cnt_le (s : List RS) : cnt s ≤ s.length := List.length_filter_le _ _
theorem free_of {s : List RS} {n : Nat} (hl : s.length = n) (h : cnt s < n) : ∃ f, f < n ∧ (atS s f).u = false := by
  apply Classical.byContradiction
  intro hno
  have hall : ∀ x ∈ s, x.u = true := fun x hx => by
    obtain ⟨i, hi, e⟩ := List.getElem_of_mem hx
    cases q : x.u with
    | true => rfl
    | false =>
      refine absurd ⟨i, by omega, ?_⟩ hno
      have := atS_get hi
      rw [List.getElem?_eq_getElem hi, e] at this
      injection this with this
      rw [← this]; exact q
  have : cnt s = s.length := by unfold cnt; rw [List.filter_eq_self.2 hall]
  omega
theorem full_of {s : List RS} {n : Nat} (hl : s.length = n) (h : cnt s = n) : ∀ i, i < n → (atS s i).u = true := by
  intro i hi
  have hm : atS s i ∈ s := List.mem_of_getElem? (atS_get (by omega))
  have he : s.filter (fun x => x.u) = s := List.filter_eq_self.2 (by
    have := List.length_filter_eq_length_iff (p := fun (x : RS) => x.u) (l := s)
    exact this.1 (by unfold cnt at h; omega))
  have hm2 : atS s i ∈ s.filter (fun x => x.u) := by rw [he]; exact hm
  exact (List.mem_filter.1 hm2).2
/-- What Put makes of a table. -/
inductive PutAt (n : Nat) (s : List RS) (k : ByteArray) (v : Int) : Int → List RS → Prop where
  | bad (h : ¬ (1 ≤ k.size ∧ k.size ≤ 33)) : PutAt n s k v 1 s
  | full (h : 1 ≤ k.size ∧ k.size ≤ 33) (hno : ∀ x, ¬ HasK n s k x) (hc : cnt s = n) : PutAt n s k v 4 s
  | set (h : 1 ≤ k.size ∧ k.size ≤ 33) (s' : List RS) (hy : ∃ x, HasK n s k x) (hm : ∀ k' v', HasK n s' k' v' ↔ (k' = k ∧ v' = v) ∨ (k' ≠ k ∧ HasK n s k' v')) (hc : cnt s' = cnt s) : PutAt n s k v 0 s'
  | new (h : 1 ≤ k.size ∧ k.size ≤ 33) (s' : List RS) (hno : ∀ x, ¬ HasK n s k x) (hm : ∀ k' v', HasK n s' k' v' ↔ (k' = k ∧ v' = v) ∨ (k' ≠ k ∧ HasK n s k' v')) (hc : cnt s' = cnt s + 1) : PutAt n s k v 0 s'
theorem Tb.next {w w' : World} {bP bS seed bits n : Nat} {s s' : List RS} {k : ByteArray} {v : Int} (h : Tb w bP bS seed bits n s) (hi : IsTb w' bP bS seed bits n s') (hw : WellT (hmK seed bits) n s') (hk : 1 ≤ k.size ∧ k.size ≤ 33) (hv : I64 v) (hm : ∀ k' v', HasK n s' k' v' → (k' = k ∧ v' = v) ∨ HasK n s k' v') : Tb w' bP bS seed bits n s' := by
  refine { h with is := hi, we := hw, ks := fun i hi hu => ?_, vs := fun i hi => ?_ }
  · rcases hm _ _ ⟨i, hi, hu, rfl, rfl⟩ with ⟨e, _⟩ | ⟨j, hj, q1, q2, _⟩
    · rw [e]; exact hk
    · rw [← q2]; exact h.ks j hj q1
  · cases hu : (atS s' i).u with
    | false => rw [hw.zero i hi hu]; unfold I64 zS; simp
    | true =>
      rcases hm _ _ ⟨i, hi, hu, rfl, rfl⟩ with ⟨_, e⟩ | ⟨j, hj, _, _, q3⟩
      · rw [e]; exact hv
      · rw [← q3]; exact h.vs j hj
theorem Put_nil (k : ByteArray) (v : Int) (w : World) : Calls Tryd.prog 21 #[.pointer none, .string k, .int .i64 v] w fun e w' => e = .returned (.int .i64 4) ∧ w = w' := by
  go_enter Tryd.func21, Tryd.ntmps21
  go_wp2
  go_ret
  exact ⟨rfl, rfl⟩
def PutTold (bP bS seed bits n : Nat) (s : List RS) (k : ByteArray) (v : Int) (w : World) (e : Ending) (w' : World) : Prop := ∃ code s', e = .returned (.int .i64 code) ∧ Tb w' bP bS seed bits n s' ∧ Kept (fun b => b = bS) w w' ∧ PutAt n s k v code s'
theorem Put_bad (bP bS seed bits n : Nat) (s : List RS) (k : ByteArray) (v : Int) (w : World) (h : Tb w bP bS seed bits n s) (hb : ¬ (1 ≤ k.size ∧ k.size ≤ 33)) (hk : k.size ≤ maxLen) :
    Calls Tryd.prog 21 #[.pointer (some ⟨bP, 0, none⟩), .string k, .int .i64 v] w (PutTold bP bS seed bits n s k v w) := by
  have R := Lib.hid (show PutTold bP bS seed bits n s k v w (.returned (.int .i64 1)) w from ⟨1, s, rfl, h, Kept.refl _ _, .bad hb⟩)
  have p2 := h.is.p2
  have hn := h.n256
  have hn2 := h.we.n2
  have hb1 := h.is.lt.1
  have n1 : ((n : Int) == 0) = false := by simp; omega
  clear h
  unfold maxLen at hk
  by_cases h1 : k.size < 1
  · have t1 : decide ((k.size : Int) < 1) = true := by simp; omega
    clear hb
    go_enter Tryd.func21, Tryd.ntmps21
    go_wp2
    go_ret
    exact R.out
  · have t1 : decide ((k.size : Int) < 1) = false := by simp; omega
    have t2 : decide ((33 : Int) < (k.size : Int)) = true := by simp; omega
    clear hb
    go_enter Tryd.func21, Tryd.ntmps21
    go_wp2
    go_ret
    exact R.out
set_option maxRecDepth 100000 in
theorem Put_ok (bP bS seed bits n : Nat) (s : List RS) (k : ByteArray) (v : Int) (w : World) (h : Tb w bP bS seed bits n s) (ht : TabW w) (hk : 1 ≤ k.size ∧ k.size ≤ 33) (hv : I64 v) :
    Calls Tryd.prog 21 #[.pointer (some ⟨bP, 0, none⟩), .string k, .int .i64 v] w (PutTold bP bS seed bits n s k v w) := by
  have hkm : k.size ≤ maxLen := Nat.le_trans hk.2 (by decide)
  have HF := Lib.hid (find_any bP bS seed bits n s k w h ht hkm)
  have H := Lib.hid h
  have HT := Lib.hid ht
  have HK := Lib.hid hk
  have HV := Lib.hid hv
  have HKM := Lib.hid hkm
  have p2 := h.is.p2
  have hn := h.n256
  have hn2 := h.we.n2
  obtain ⟨hb1, hb2⟩ := h.is.lt
  have n1 : ((n : Int) == 0) = false := by simp; omega
  have t1 : decide ((k.size : Int) < 1) = false := by simp; omega
  have t2 : decide ((33 : Int) < (k.size : Int)) = false := by simp; omega
  clear h ht hk hkm hv
  go_enter Tryd.func21, Tryd.ntmps21
  go_wp2_with fail
  refine HF.out.mono ?_
  rintro e w1 ⟨z, r, rfl, ⟨m, rfl⟩, hf⟩
  have q2 : (w.drewN m).cell? ⟨bP, 2, none⟩ = some (.slice (some ⟨bS, 0, none⟩) n n) := p2
  have hbm1 : bP < (w.drewN m).heap.size := hb1
  have hbm2 : bS < (w.drewN m).heap.size := hb2
  rcases hf with ⟨i, hi, h1, h2, rfl, rfl⟩ | ⟨h1, rfl, rfl⟩
  · have c2 := (H.out.is.drewN m).c2 hi
    have fS := (H.out.is.drewN m).sl.loose
    have R := Lib.hid (show PutTold bP bS seed bits n s k v w (.returned (.int .i64 0)) ((w.drewN m).setCell ⟨bS, i * 4 + 2, none⟩ (.int .i64 v)) from by
      have hw := H.out.we.value hi h1 v
      have e := fun j => atS_set (s := s) { atS s i with v := v } (show i < s.length by rw [H.out.is.le]; exact hi) j
      have hm : ∀ k' v', HasK n (s.set i { atS s i with v := v }) k' v' ↔ (k' = k ∧ v' = v) ∨ (k' ≠ k ∧ HasK n s k' v') := fun k' v' => by
        constructor
        · rintro ⟨j, hj, q1, q2, q3⟩
          rw [e] at q1 q2 q3
          by_cases r : j = i
          · rw [if_pos r] at q2 q3
            exact .inl ⟨by rw [← q2]; exact h2, q3.symm⟩
          · rw [if_neg r] at q1 q2 q3
            exact .inr ⟨fun q => r (H.out.we.nd j i hj hi q1 h1 (by rw [q2, q, h2])), ⟨j, hj, q1, q2, q3⟩⟩
        · rintro (⟨rfl, rfl⟩ | ⟨q, j, hj, q1, q2, q3⟩)
          · exact ⟨i, hi, by rw [e, if_pos rfl]; exact h1, by rw [e, if_pos rfl]; exact h2, by rw [e, if_pos rfl]⟩
          · have r : j ≠ i := fun r => q (by rw [← q2, r, h2])
            exact ⟨j, hj, by rw [e, if_neg r]; exact q1, by rw [e, if_neg r]; exact q2, by rw [e, if_neg r]; exact q3⟩
      have hc : cnt (s.set i { atS s i with v := v }) = cnt s := by
        have := cnt_set (s := s) (i := i) { atS s i with v := v } (by rw [H.out.is.le]; exact hi)
        exact Nat.add_right_cancel this
      exact ⟨0, _, rfl, H.out.next ((H.out.is.drewN m).setV hi v) hw HK.out HV.out (fun k' v' q => ((hm k' v').1 q).imp id (fun x => x.2)), (Kept.drewN (Kept.refl (fun b => b = bS) w) m).setCell (p := ⟨bS, i * 4 + 2, none⟩) (.inl rfl) _, .set HK.out _ ⟨_, i, hi, h1, h2, rfl⟩ hm hc⟩)
    generalize (atS s i).v = x at *
    clear h1 h2
    go_wp2
    go_ret
    exact R.out
  · have hno : ∀ x, ¬ HasK n s k x := fun x ⟨i, hi, q1, q2, _⟩ => h1 i hi q1 q2
    have HNO := Lib.hid hno
    have HN1 := Lib.hid h1
    have hT1 := H.out.drewN m
    have hT2 := hT1.below (Below.refl _ _).drew
    have HL := Lib.hid (Len_any bP bS seed bits n s _ hT2.is hn)
    rw [usedL_cnt hT1.is.le] at HL
    have HT2 := Lib.hid hT2
    have hcl : cnt s ≤ n := by have := cnt_le s; rw [hT1.is.le] at this; exact this
    clear hno h1 hT1 hT2 HF
    go_wp2_with fail
    by_cases hc : cnt s = n
    · have R := Lib.hid (fun (w2 : World) (hb : Below (w.drewN m).drew.heap.size (w.drewN m).drew w2) => show PutTold bP bS seed bits n s k v w (.returned (.int .i64 4)) w2 from ⟨4, s, rfl, HT2.out.below hb, ((Kept.drewN (Kept.refl _ w) m).drew).trans (Kept.of_below (F := fun _ => False) hb) (fun _ q => q.elim), .full HK.out HNO.out hc⟩)
      rw [hc] at HL
      clear hc
      go_region_held3 (fun w' => w'.cell? ⟨bP, 2, none⟩ = some (.slice (some ⟨bS, 0, none⟩) n n)) (first | exact q2 | exact q4 | go_keep) (first | (go_at_call 15; refine HL.out.mono ?_; rintro e w2 ⟨rfl, hb2⟩; have q4 := (HT2.out.below hb2).is.p2; have q5 := (HT2.out.below hb2).is.lt.1; have RR := Lib.hid (R.out w2 hb2); clear hb2 R))
      all_goals
        go_wp2
        go_ret
        exact RR.out
    · obtain ⟨f, hf1, hf2⟩ := free_of H.out.is.le (by omega)
      have HI := Lib.hid (fun (w2 : World) (hb : Below (w.drewN m).drew.heap.size (w.drewN m).drew w2) => insert_any bP bS seed bits n f s k v w2 (HT2.out.below hb) (((HT.out.drewN m).below (Below.refl _ _).drew).below hb) HKM.out HN1.out hf1 hf2)
      have t3 : ((cnt s : Int) == (n : Int)) = false := by simp; omega
      have HB := Lib.hid (fun (w2 : World) (hb : Below (w.drewN m).drew.heap.size (w.drewN m).drew w2) => show Kept (fun b => b = bS) w w2 from ((Kept.drewN (Kept.refl _ w) m).drew).trans (Kept.of_below (F := fun _ => False) hb) (fun _ q => q.elim))
      generalize cnt s = cs at *
      go_region_held3 (fun w' => w'.cell? ⟨bP, 2, none⟩ = some (.slice (some ⟨bS, 0, none⟩) n n)) (first | exact q2 | exact q4 | go_keep) (first | (go_at_call 15; refine HL.out.mono ?_; rintro e w2 ⟨rfl, hb2⟩; have q4 := (HT2.out.below hb2).is.p2; have q5 := (HT2.out.below hb2).is.lt.1; have HI2 := Lib.hid (HI.out w2 hb2); have HB2 := Lib.hid (HB.out w2 hb2); clear hb2))
      all_goals
        clear HL HI HB
        go_wp2_with fail
        refine HI2.out.mono ?_
        rintro e w3 ⟨rfl, hins⟩
        have R := Lib.hid (show PutTold bP bS seed bits n s k v w (.returned (.int .i64 0)) w3 from by
          obtain ⟨s1, c, a, hI, hau, hT3, hK3⟩ := hins.out
          obtain ⟨d1, d2, d3⟩ := hI.done hau
          have hm : ∀ k' v', HasK n (s1.set a c) k' v' ↔ (k' = k ∧ v' = v) ∨ (k' ≠ k ∧ HasK n s k' v') := fun k' v' => by
            rw [d2]
            constructor
            · rintro (q | q)
              · exact .inr ⟨fun e => HNO.out v' (e ▸ q), q⟩
              · exact .inl q
            · rintro (q | q)
              · exact .inr q
              · exact .inl q.2
          exact ⟨0, _, rfl, H.out.next hT3 d1 HK.out HV.out (fun k' v' q => ((hm k' v').1 q).imp id (fun x => x.2)), HB2.out.trans hK3 (fun _ e => .inl e), .new HK.out _ HNO.out hm d3⟩)
        clear hins
        go_wp2
        go_ret
        exact R.out
end Go.Proofs.YtgcdminjpdbchaaDoor
