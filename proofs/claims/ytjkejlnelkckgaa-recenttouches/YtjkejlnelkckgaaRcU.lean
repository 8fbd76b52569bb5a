/- A Recent told by its ids in order: the contracts of Drop, Touch, New and Order. -/
import Derived.Test.YtjkejlnelkckgaaRcT
namespace Go.Proofs.Ytjkejlnelkckgaa
open Go.ChangeShapes Go.WideShapes Go.ChangeAt Go.RowKit
set_option linter.unusedVariables false

theorem fieldLk0 (a b : Int) (u : World) : (Instr.field 46 (.agg #[.int .i64 a, .int .i64 b]) 0).run Try.prog u = .ok (.int .i64 a) u := by kernel_rfl
theorem mem_cut {x : Nat} {l : List Nat} (h : x ∈ l) : ∃ a b, l = a ++ x :: b := List.append_of_mem h
theorem flt_cut {l1 l2 : List Nat} {x : Nat} (h : (l1 ++ x :: l2).Nodup) : flt (l1 ++ x :: l2) x = l1 ++ l2 := by
  obtain ⟨n1, n2, n3⟩ := List.nodup_append.1 h
  obtain ⟨n4, n5⟩ := List.nodup_cons.1 n2
  have e1 : flt l1 x = l1 := List.filter_eq_self.2 (fun y hy => by simp; rintro rfl; exact n3 y hy y (by simp) rfl)
  have e2 : flt l2 x = l2 := List.filter_eq_self.2 (fun y hy => by simp; rintro rfl; exact n4 hy)
  have : flt (l1 ++ x :: l2) x = flt l1 x ++ flt l2 x := by simp [flt]
  rw [this, e1, e2]
theorem flt_out {l : List Nat} {x : Nat} (h : x ∉ l) : flt l x = l := List.filter_eq_self.2 (fun y hy => by simp; rintro rfl; exact h hy)
theorem flt_mem {l : List Nat} {x y : Nat} : y ∈ flt l x ↔ y ∈ l ∧ y ≠ x := by simp [flt]
theorem flt_le (l : List Nat) (x : Nat) : (flt l x).length ≤ l.length := List.length_filter_le _ _
theorem RC.join {w' : World} {bP bM : Nat} {l : List Nat} {f : Lk} {n : Nat} (h : IsRc w' bP bM f n) (hr : RepL (cI l) f) (hn : n = l.length + 1) : RC w' bP bM l := by
  subst hn
  exact ⟨f, h, hr⟩
section
variable (bP bM : Nat) (l : List Nat) (w : World) (h : RC w bP bM l)
include h
theorem Drop_neg (k : Int) (hk : I64 k) (hx : ∀ x : Nat, x ∈ l → (x : Int) ≠ k) : Calls Try.prog 12 #[.pointer (some ⟨bP, 0, none⟩), .int .i64 k] w fun e w' => e = .returned (.bool false) ∧ Below w.heap.size w w' := by
  by_cases h0 : k < 0
  · obtain ⟨f, a, b⟩ := h
    have HM := Lib.hid (made_any bP bM f _ w a)
    clear a b hx hk
    go_enter Try.func12, Try.ntmps12
    go_wp2_with fail
    refine HM.out.mono ?_
    rintro e w1 ⟨rfl, rfl⟩
    go_wp2
    go_ret
    exact ⟨rfl, Below.refl _ _⟩
  · obtain ⟨f, a, b⟩ := h
    have hno : f k = none := b.no (by omega) (fun hm => by
      obtain ⟨x, rfl⟩ := Int.eq_ofNat_of_zero_le (Int.not_lt.1 h0)
      exact hx x (cI_mem.1 hm) rfl)
    have HM := Lib.hid (made_any bP bM f _ w a)
    have HW := Lib.hid a
    have HK := Lib.hid hk
    have HF := Lib.hid (show (f k).getD lkE.zero = (0, 0) by rw [hno]; rfl)
    have HS := Lib.hid (show (f k).isSome = false by rw [hno]; rfl)
    have pM := a.pM
    have hbP := a.hd.lt
    have HA := Lib.hid (a.below (box_below (.cells #[.int .i64 0, .int .i64 0] 46)))
    clear a b hx hk hno
    go_enter Try.func12, Try.ntmps12
    go_wp2_with fail
    refine HM.out.mono ?_
    rintro e w1 ⟨rfl, rfl⟩
    go_wp2_with (at_lookup; first | (refine wpList_mlook_ok lkE w rfl _ _ 47 46 rfl Try.underlying47 (Try.zeroLk _) bM _ f rfl HW.out.mp k rfl HK.out (0, 0) false HF.out HS.out (.agg #[.int .i64 0, .int .i64 0]) rfl ?_) | (refine wpList_mlook_ok lkE (w.alloc (.cells #[.int .i64 0, .int .i64 0] 46)) rfl _ _ 47 46 rfl Try.underlying47 (Try.zeroLk _) bM _ f rfl HA.out.mp k rfl HK.out (0, 0) false HF.out HS.out (.agg #[.int .i64 0, .int .i64 0]) rfl ?_))
    go_wp2
    go_ret
    exact ⟨rfl, box_below _⟩
set_option maxRecDepth 100000 in
theorem Drop_in (x : Nat) (hx : x ∈ l) (hl : l.length ≤ 1000) : Calls Try.prog 12 #[.pointer (some ⟨bP, 0, none⟩), .int .i64 (x : Int)] w (RcT bP bM (flt l x) (.bool true) w) := by
  have hbd := h.bd hx
  have hnd := h.nd
  obtain ⟨l1, l2, rfl⟩ := mem_cut hx
  rw [flt_cut hnd]
  obtain ⟨f, a, b⟩ := h
  have b' := b
  rw [cI_app, cI_cons] at b'
  have hat := b'.at_in (i := (cI l1).length) (x := (x : Int)) (by simp)
  have hunl := b'.unlink
  have hd1 := joinL_some (delL f x)
  have hring : ∀ i, I64 (ringI (cI l1 ++ (x : Int) :: cI l2) i) := I64_ring b'.bd
  obtain ⟨pa, hpa⟩ : ∃ pa, ringI (cI l1 ++ (x : Int) :: cI l2) (cI l1).length = pa := ⟨_, rfl⟩
  obtain ⟨pb, hpb⟩ : ∃ pb, ringI (cI l1 ++ (x : Int) :: cI l2) ((cI l1).length + 2) = pb := ⟨_, rfl⟩
  have ka : I64 pa := hpa ▸ hring _
  have kb : I64 pb := hpb ▸ hring _
  rw [hpa, hpb] at hunl hat
  -- both are there still
  have hsa : (delL f x pa).isSome = true := by
    have q := (hunl.dom pa).2
    unfold delL
    by_cases e : pa = x
    · exfalso
      have : pa = -1 ∨ pa ∈ cI l1 ++ cI l2 := (hunl.dom pa).1 (by rw [joinL_some]; simp)
      rw [e, ← cI_app] at this
      rcases this with r | r
      · omega
      · have := flt_cut hnd ▸ cI_mem.1 r
        exact (flt_mem.1 this).2 rfl
    · rw [if_neg e]
      have : pa = -1 ∨ pa ∈ cI l1 ++ cI l2 := (hunl.dom pa).1 (by rw [joinL_some]; simp)
      refine (b'.dom pa).2 (this.imp id (fun r => ?_))
      rcases List.mem_append.1 r with r | r <;> simp [r]
  have hsb : (delL f x pb).isSome = true := by
    unfold delL
    by_cases e : pb = x
    · exfalso
      have : pb = -1 ∨ pb ∈ cI l1 ++ cI l2 := (hunl.dom pb).1 (by rw [joinL_some]; simp)
      rw [e, ← cI_app] at this
      rcases this with r | r
      · omega
      · have := flt_cut hnd ▸ cI_mem.1 r
        exact (flt_mem.1 this).2 rfl
    · rw [if_neg e]
      have : pb = -1 ∨ pb ∈ cI l1 ++ cI l2 := (hunl.dom pb).1 (by rw [joinL_some]; simp)
      refine (b'.dom pb).2 (this.imp id (fun r => ?_))
      rcases List.mem_append.1 r with r | r <;> simp [r]
  have hsb2 : (joinA (delL f x) pa pb pb).isSome = true := by
    unfold joinA putL
    split
    · rfl
    · exact hsb
  have HUN := Lib.hid (show RepL (cI (l1 ++ l2)) (joinL (delL f x) pa pb) by rw [cI_app]; exact hunl)
  have HJ := Lib.hid (fun (u : World) (n : Nat) (hn : n ≤ 100000) (hu : IsRc u bP bM (delL f x) n) => join_any bP bM (delL f x) n pa pb u hu ka kb hn)
  have HNN := Lib.hid (fun (n : Nat) => show nJ (joinA (delL f x) pa pb) pb (nJ (delL f x) pa n) = n by rw [nJ_some _ hsb2, nJ_some _ hsa])
  have HM := Lib.hid (made_any bP bM f _ w a)
  have HW := Lib.hid a
  have HK := Lib.hid (I64_nat hbd)
  have HF := Lib.hid (show (f (x : Int)).getD lkE.zero = (pa, pb) by rw [hat]; rfl)
  have HS := Lib.hid (show (f (x : Int)).isSome = true by rw [hat]; rfl)
  obtain ⟨n, hn⟩ : ∃ n, (l1 ++ x :: l2).length + 1 = n := ⟨_, rfl⟩
  have HLN := Lib.hid (show n - 1 = (l1 ++ l2).length + 1 by rw [← hn]; simp; omega)
  have hn1 : n - 1 ≤ 100000 := by omega
  rw [hn] at HW
  have pM := a.pM
  have hbP := a.hd.lt
  have t0 : ¬ (x : Int) < 0 := by omega
  have HA := Lib.hid (HW.out.below (box_below (.cells #[.int .i64 pa, .int .i64 pb] 46)))
  clear a b b' hat hunl hd1 hring hpa hpb ka kb hsa hsb hsb2 hn hx hnd hl hbd
  go_enter Try.func12, Try.ntmps12
  go_wp2_with fail
  refine HM.out.mono ?_
  rintro e w1 ⟨rfl, rfl⟩
  go_wp2_with (first | (at_lookup; refine wpList_mlook_ok lkE w rfl _ _ 47 46 rfl Try.underlying47 (Try.zeroLk _) bM n f rfl HW.out.mp x rfl HK.out (pa, pb) true HF.out HS.out (.agg #[.int .i64 pa, .int .i64 pb]) rfl ?_) | (at_delete; refine wpList_mdelete lkE (w.alloc (.cells #[.int .i64 pa, .int .i64 pb] 46)) rfl _ _ 47 46 rfl Try.underlying47 bM n f rfl HA.out.mp x rfl HK.out (n - 1) (by rw [HS.out]; rfl) ?_; intro w2 hm hkp hz; have HW2 := Lib.hid (HA.out.map hm hkp); have HB2 := (Has.made w 46 [.int .i64 pa, .int .i64 pb]).kept hkp (by have := HW.out.mp.lt; omega); have c0 := HB2.cell 0; have c1 := HB2.cell 1; simp at c0 c1; have HK2 := Lib.hid (show Kept (two bP bM) w w2 from two_trans ((Kept.refl _ w).alloc _) (two_bM hkp)); have hbH := HB2.lt; clear hm hkp hz HB2))
  refine (HJ.out w2 (n - 1) hn1 HW2.out).mono ?_
  rintro e w3 ⟨rfl, h3, k3⟩
  rw [HNN.out, HLN.out] at h3
  have R := Lib.hid (show RcT bP bM (l1 ++ l2) (.bool true) w (.returned (.bool true)) w3 from ⟨rfl, ⟨_, h3, HUN.out⟩, two_trans HK2.out k3⟩)
  clear h3 k3
  go_wp2
  go_ret
  exact R.out
theorem Drop_any (x : Nat) (hx : x ≤ 9223372036854775807) (hl : l.length ≤ 1000) (r : Bool) (hr : r = true ↔ x ∈ l) : Calls Try.prog 12 #[.pointer (some ⟨bP, 0, none⟩), .int .i64 (x : Int)] w (RcT bP bM (flt l x) (.bool r) w) := by
  by_cases hm : x ∈ l
  · obtain rfl : r = true := hr.2 hm
    exact Drop_in bP bM l w h x hm hl
  · obtain rfl : r = false := by
      cases r with
      | false => rfl
      | true => exact absurd (hr.1 rfl) hm
    rw [flt_out hm]
    refine (Drop_neg bP bM l w h x (I64_nat hx) (fun y hy e => hm (by have : y = x := by omega
                                                                      rw [← this]; exact hy))).mono ?_
    rintro e w' ⟨rfl, hb⟩
    exact ⟨rfl, h.below hb, Kept.of_below hb⟩
theorem Touch_no (k : Int) (hk : k < 0) : Calls Try.prog 10 #[.pointer (some ⟨bP, 0, none⟩), .int .i64 k] w fun e w' => e = .returned (.int .i64 1) ∧ w = w' := by
  obtain ⟨f, a, b⟩ := h
  have HM := Lib.hid (made_any bP bM f _ w a)
  clear a b
  go_enter Try.func10, Try.ntmps10
  go_wp2_with fail
  refine HM.out.mono ?_
  rintro e w1 ⟨rfl, rfl⟩
  go_wp2
  go_ret
  exact ⟨rfl, rfl⟩
set_option maxRecDepth 100000 in
theorem Touch_T (x : Nat) (hx : x ≤ 9223372036854775807) (hl : l.length ≤ 1000) : Calls Try.prog 10 #[.pointer (some ⟨bP, 0, none⟩), .int .i64 (x : Int)] w (RcT bP bM (flt l x ++ [x]) (.int .i64 0) w) := by
  obtain ⟨r, hr⟩ : ∃ r : Bool, r = true ↔ x ∈ l := ⟨decide (x ∈ l), by simp⟩
  have HD := Lib.hid (Drop_any bP bM l w h x hx hl r hr)
  have hfl := flt_le l x
  have hfx : x ∉ flt l x := fun q => (flt_mem.1 q).2 rfl
  have HM := Lib.hid (fun u (hu : RC u bP bM l) => show Calls Try.prog 21 #[.pointer (some ⟨bP, 0, none⟩)] u fun e w' => e = .returned (.bool true) ∧ u = w' from by obtain ⟨f, a, b⟩ := hu; exact made_any bP bM f _ u a)
  have H0 := Lib.hid h
  have HK := Lib.hid (I64_nat hx)
  have HX := Lib.hid hx
  have t0 : ¬ (x : Int) < 0 := by omega
  clear h hr hx
  generalize flt l x = m at *
  go_enter Try.func10, Try.ntmps10
  go_wp2_with fail
  refine (HM.out _ H0.out).mono ?_
  rintro e w1 ⟨rfl, rfl⟩
  go_wp2_with fail
  refine HD.out.mono ?_
  rintro e w1 ⟨rfl, ⟨f, ha, hb⟩, hk⟩
  have he := hb.at_end
  have hin : ringI (cI m) (cI m).length = -1 ∨ ringI (cI m) (cI m).length ∈ cI m := by
    cases hq : (cI m).length with
    | zero => exact .inl rfl
    | succ q => exact .inr (ringI_mem (by omega))
  have hkp : I64 (ringI (cI m) (cI m).length) := I64_ring hb.bd _
  have hln := hb.link (x := (x : Int)) (fun q => hfx (cI_mem.1 q)) (by omega) (by have := HX.out; omega)
  obtain ⟨pa, hpa⟩ : ∃ pa, ringI (cI m) (cI m).length = pa := ⟨_, rfl⟩
  rw [hpa] at he hin hkp hln
  have hpx : pa ≠ (x : Int) := by
    rintro rfl
    rcases hin with r | r
    · omega
    · exact hfx (cI_mem.1 r)
  have s1 : (f pa).isSome = true := (hb.dom pa).2 hin
  have s2 : (joinA f pa x x).isSome = false := by
    unfold joinA putL
    rw [if_neg (fun e => hpx e.symm), hb.no (by omega) (fun q => hfx (cI_mem.1 q))]
    rfl
  have s3 : (joinL f pa x x).isSome = true := by rw [joinL_some]; simp
  have s4 : (joinA (joinL f pa x) x (-1) (-1)).isSome = true := by
    unfold joinA putL
    split
    · rfl
    · rw [joinL_some, (hb.dom (-1)).2 (.inl rfl)]; simp
  obtain ⟨n, hn⟩ : ∃ n, m.length + 1 = n := ⟨_, rfl⟩
  have HN := Lib.hid (show nJ (joinA (joinL f pa x) x (-1)) (-1) (nJ (joinL f pa x) x (nJ (joinA f pa x) x (nJ f pa n))) = (m ++ [x]).length + 1 by
    rw [nJ_some _ s4, nJ_some _ s3, nJ_some _ s1]
    unfold nJ
    rw [s2]
    simp
    omega)
  have hn2 : n ≤ 1001 := by omega
  rw [hn] at ha
  have HA := Lib.hid ha
  have HP := Lib.hid hkp
  have HK1 := Lib.hid hk
  have HLK := Lib.hid (show (f (-1)).getD lkE.zero = (pa, ringI (cI m) 1) by rw [he]; rfl)
  have HF := Lib.hid (show RepL (cI (m ++ [x])) (joinL (joinL f pa x) x (-1)) by rw [cI_app]; exact hln)
  have pM := ha.pM
  have hbP := ha.hd.lt
  have hf0 := fieldLk0 pa (ringI (cI m) 1)
  generalize ringI (cI m) 1 = pq at *
  clear ha hb hk he hin hkp hln hpa hpx s1 s2 s3 s4 hn HM H0 HD hfl hfx hl
  go_wp2_with (at_lookup; refine wpList_mlook lkE w1 rfl _ _ 47 46 rfl Try.underlying47 (Try.zeroLk _) bM _ _ rfl HA.out.mp (-1) rfl (by unfold I64; omega) (pa, pq) HLK.out (.agg #[.int .i64 pa, .int .i64 pq]) rfl ?_)
  go_wp2_with fail
  refine (join_any bP bM f n pa x w1 HA.out HP.out HK.out (by omega)).mono ?_
  rintro e w2 ⟨rfl, h2, k2⟩
  have H2 := Lib.hid h2
  have K2 := Lib.hid (two_trans HK1.out k2)
  have hn3 : nJ (joinA f pa x) x (nJ f pa n) ≤ 1003 := by
    have := nJ_le f pa n
    have := nJ_le (joinA f pa x) x (nJ f pa n)
    omega
  clear h2 k2
  go_wp2_with fail
  refine (join_any bP bM _ _ x (-1) w2 H2.out HK.out (by unfold I64; omega) (by omega)).mono ?_
  rintro e w3 ⟨rfl, h3, k3⟩
  rw [HN.out] at h3
  have R := Lib.hid (show RcT bP bM (m ++ [x]) (.int .i64 0) w (.returned (.int .i64 0)) w3 from ⟨rfl, ⟨_, h3, HF.out⟩, two_trans K2.out k3⟩)
  clear h3 k3
  go_wp2
  go_ret
  exact R.out
end
end Go.Proofs.Ytjkejlnelkckgaa
