/- The document's map: Delete, Keys; whether texts are the same. -/
import Derived.Test.YtgcdminjpdbchaaDoorRbM4
import Derived.Deep.Draws
import Derived.Test.YtgcdminjpdbchaaDoorOwn1
namespace Go.Proofs.YtgcdminjpdbchaaDoor
open Go.ChangeShapes Go.WideShapes Go.ChangeAt Go.RowKit
set_option linter.unusedVariables false

/-- What Delete tells, and makes of the document's map. -/
def DelM (B : Nat) (bM : Nat) (v : Value) (most : Nat) (M : ByteArray → Option Int) (c : Nat) (k : ByteArray) (w : World) (e : Ending) (w' : World) : Prop := e = .returned (.bool (M k).isSome) ∧ ∃ v' l', PutM1 B bM v most (upd M k none) (if (M k).isSome then c - 1 else c) w v' l' w'
theorem upd_none {M : ByteArray → Option Int} {k : ByteArray} (h : M k = none) : upd M k none = M := by
  funext x
  unfold upd
  by_cases e : x = k
  · rw [if_pos e, e, h]
  · rw [if_neg e]
theorem del_new {B bM most : Nat} {w w2 : World} {v : Value} {l : List Pr} {i : Nat} {p : Pr} {M : ByteArray → Option Int} {A : Option Addr} {cap q : Nat} (h : Mp B w bM v l most) (hM : LM l M) (hp : l[i]? = some p) (hk : Kept (fun _ => False) w w2) (ho : OwnPr w.heap.size 70 w2 (.slice A q cap) (l.take i ++ l.drop (i + 1))) (hB : B ≤ w.heap.size) :
    PutM1 B bM v most (upd M p.1 none) (l.length - 1) w (.slice A q cap) (l.take i ++ l.drop (i + 1)) (w2.setCell ⟨bM, 0, none⟩ (.slice A q cap)) := by
  have h2 := h.kept hk (fun q => q) (fun _ _ q => q)
  have hs : Kept (fun b => b = bM) w2 (w2.setCell ⟨bM, 0, none⟩ (.slice A q cap)) := (Kept.refl (fun b => b = bM) w2).setCell (p := ⟨bM, 0, none⟩) (.inl rfl) _
  have hlt := h.h.lt
  have hi := (List.getElem?_eq_some_iff.1 hp).1
  refine ⟨⟨h2.h.store 0 _, (ho.base hB).kept hs (fun b hb q => ?_)⟩, hM.del hp, ?_, (hk.mono (fun _ _ q => q.elim)).trans hs (fun b q => .inl (.inl q)), fun b hb => .inr (owns_lt ho hb).1⟩
  · have := (owns_lt ho hb).1
    omega
  · rw [List.length_append, List.length_take, List.length_drop]
    omega
set_option maxRecDepth 100000 in
set_option maxHeartbeats 1000000 in
theorem rDelete_any (B : Nat) (w : World) (bM : Nat) (v : Value) (l : List Pr) (most : Nat) (M : ByteArray → Option Int) (k : ByteArray) (hl : l.length ≤ most) (hmo : most ≤ 256) (hk : k.size ≤ maxLen) (hB : B ≤ w.heap.size) (h : Mp B w bM v l most) (hM : LM l M) :
    Calls Tryd.prog 28 #[.pointer (some ⟨bM, 0, none⟩), .string k] w (DelM B bM v most M l.length k w) := by
  have HPL := Lib.hid (place_any B w bM v l most k (by omega) h)
  have HH := Lib.hid h
  have HM := Lib.hid hM
  have HBB := Lib.hid hB
  clear h hM hk hB
  go_enter Tryd.func28, Tryd.ntmps28
  go_wp2_with fail
  refine HPL.out.mono ?_
  rintro e w1 ⟨i, b, rfl, ⟨m, rfl⟩, hp, hi⟩
  have HD := Lib.hid (HH.out.drewN m)
  have HB0 := Lib.hid (below_drewN (Below.refl w.heap.size w) m)
  rcases hi with ⟨rfl, p, hpi, hkk⟩ | ⟨rfl, hno⟩
  · have hMk := hp.is HM.out hpi hkk
    have HMK := Lib.hid hMk
    have HPI := Lib.hid hpi
    have HKK := Lib.hid hkk
    have hlt := (List.getElem?_eq_some_iff.1 hpi).1
    have c0 := HH.out.h.cell 0
    simp at c0
    have HLE := Lib.hid hp.le
    obtain ⟨n, hn⟩ : ∃ n, l.length = n := ⟨_, rfl⟩
    rw [hn] at hl hlt
    have HN := Lib.hid hn
    clear hp hpi hkk hMk hn
    have HX := HD
    have HB0X := Lib.hid (show B ≤ (w.drewN m).heap.size from HBB.out)
    have HD0 : (w.drewN m).cell? ⟨bM, 0, none⟩ = some v := c0
    have HLB : bM < (w.drewN m).heap.size := HX.out.h.lt
    clear HD HPL
    generalize w.drewN m = W0 at HX HB0 HB0X HD0 HLB ⊢
    obtain ⟨B1, e1, B2, e2, hcut⟩ := cut_of HX.out.o HLE.out
    obtain ⟨B3, e3, B4, e4, hcut2⟩ := cut_of (i := i + 1) HX.out.o (by rw [HN.out]; omega)
    have hpre := hcut.pre
    have hrest := hcut2.rest
    rw [HN.out] at hrest
    push_cast at hrest
    have HC1 := Lib.hid hcut.at1
    have HC2 := Lib.hid hcut2.at2
    have HO1 := Lib.hid (show OwnPr W0.heap.size 70 (W0.alloc (.cells #[] 70)) (.slice (some ⟨W0.heap.size, 0, none⟩) 0 0) [] from World.ownsRow_lit W0 #[] 0 (Nat.le_refl _) (by unfold maxLen; omega) rfl)
    have K1 := Lib.hid ((Kept.refl (fun _ => False) W0).alloc (.cells #[] 70))
    have HA1 := Lib.hid (HC1.out _ (HX.out.kept K1.out (fun q => q) (fun _ _ q => q)).o)
    have HT1 := Lib.hid (show (l.take i).length = i by rw [List.length_take, HN.out]; omega)
    have HT2 := Lib.hid (show (l.drop (i + 1)).length = n - (i + 1) by rw [List.length_drop, HN.out])
    have HK1 := Lib.hid (show ([] : List Pr).length + (l.take i).length = i by rw [HT1.out]; simp)
    have HK3 := Lib.hid (show (l.take i).length + (l.drop (i + 1)).length = n - 1 by rw [HT1.out, HT2.out]; omega)
    clear hcut hcut2 c0
    go_wp2_with (first
      | (at_builtin; refine wpList_append_pr W0.heap.size Tryd.underlying37 infoPair (W0.alloc (.cells #[] 70)) rfl _ _ rfl (.slice (some ⟨W0.heap.size, 0, none⟩) 0 0) [] (l.take i) B1 i e1 i HK1.out rfl rfl HT1.out HO1.out HA1.out K1.out.size (by omega) ?_; intro A1 f1 w2 ho2 hk2 _; have K2 := Lib.hid (K1.out.trans hk2 (fun b e => .inr (lit_ge e))); have HO2 := Lib.hid (show OwnPr W0.heap.size 70 w2 (.slice A1 i f1) (l.take i) from ho2); have HX2 := Lib.hid (HX.out.kept K2.out (fun q => q) (fun _ _ q => q)); have g0 := HX2.out.h.cell 0; simp at g0; have HA4 := Lib.hid (HC2.out w2 HX2.out.o); clear ho2 hk2)
      | (at_builtin; refine wpList_append_pr W0.heap.size Tryd.underlying37 infoPair w2 rfl _ _ rfl (.slice A1 i f1) (l.take i) (l.drop (i + 1)) B4 (n - (i + 1)) e4 (n - 1) HK3.out rfl rfl HT2.out HO2.out HA4.out K2.out.size (by omega) ?_; intro A3 f3 w5 ho5 hk5 _; have K5 := Lib.hid (K2.out.trans hk5 (fun b e => .inr (owns_lt HO2.out e).1)); have HO5 := Lib.hid ho5; have HX5 := Lib.hid (HX.out.kept K5.out (fun q => q) (fun _ _ q => q)); have g5 := HX5.out.h.cell 0; simp at g5; have g6 : ∀ i, w5.frozen? ⟨bM, i, none⟩ = false := HX5.out.h.loose; clear ho5 hk5))
    go_ret
    refine ⟨by rw [HMK.out]; rfl, .slice A3 (n - 1) f3, l.take i ++ l.drop (i + 1), ?_⟩
    have := (del_new HX.out HM.out HPI.out K5.out HO5.out HB0X.out).from HB0.out
    rw [HKK.out] at this
    rw [if_pos (show (M k).isSome = true by rw [HMK.out]; rfl)]
    exact this
  · have hMk := hp.no HM.out hno
    have HE := Lib.hid hMk
    have HS := Lib.hid (PutM1.same HH.out HM.out)
    clear hp hno hMk
    go_wp2
    go_ret
    exact ⟨by rw [HE.out]; rfl, _, _, by rw [upd_none HE.out, if_neg (show ¬ (M k).isSome = true by rw [HE.out]; simp)]; exact HS.out.drew m⟩
/-- A slice reads as these texts. -/
def TxAt (w : World) (A : Option Addr) (xs : List ByteArray) : Prop := 0 < xs.length → ∃ b off, A = some ⟨b, off, none⟩ ∧ b < w.heap.size ∧ ∀ i x, xs[i]? = some x → w.cell? ⟨b, off + i, none⟩ = some (.string x)
theorem tx_of {w : World} {B n : Nat} {v : Value} {xs : List ByteArray} (h : w.ownsRow B 9 1 v n (xs.map Value.string)) (hn : xs.length = n) : ∃ A cap, v = .slice A n cap ∧ TxAt w A xs ∧ ∀ b off, A = some ⟨b, off, none⟩ → B ≤ b := by
  obtain ⟨h1, ⟨h2, h3⟩ | ⟨gb, cap, cur, h2, h3, h4, h5, h6, h7, h8⟩⟩ := h
  · exact ⟨none, 0, by rw [h2, h3], fun h => absurd h (by omega), fun b off e => by cases e⟩
  · refine ⟨_, cap, h2, fun h0 => ⟨gb, 0, rfl, ?_, fun i x hx => ?_⟩, fun b off e => by cases e; exact h3⟩
    · rcases Nat.lt_or_ge gb w.heap.size with q | q
      · exact q
      · rw [Array.getElem?_eq_none q] at h4; cases h4
    · have hi := (List.getElem?_eq_some_iff.1 hx).1
      rw [Nat.zero_add, cell_of_row w gb i cur 9 (0, 0) h4]
      have : cur.toList[i]? = (xs.map Value.string)[i]? := by rw [← h8, List.getElem?_take, if_pos (by omega)]
      rw [← Array.getElem?_toList, this, List.getElem?_map, hx]
      rfl
theorem TxAt.below {B : Nat} {w w' : World} {A : Option Addr} {xs : List ByteArray} (h : TxAt w A xs) (hb : Below B w w') (hA : ∀ b off, A = some ⟨b, off, none⟩ → b < B) : TxAt w' A xs := fun h0 => by
  obtain ⟨b, off, rfl, h1, h2⟩ := h h0
  exact ⟨b, off, rfl, Nat.lt_of_lt_of_le h1 hb.size, fun i x hx => (hb.cell (p := ⟨b, off + i, none⟩) (hA b off rfl)).trans (h2 i x hx)⟩
/-- Of the same texts Texts tells true. -/
theorem Texts_yes (A B : Option Addr) (n c d : Nat) (xs : List ByteArray) (w : World) (hl : xs.length = n) (hn : n ≤ 100000) (h1 : TxAt w A xs) (h2 : TxAt w B xs) : Calls Tryd.prog 16 #[.slice A n c, .slice B n d] w fun e w' => e = .returned (.bool true) ∧ ∃ m, w' = w.drewN m := by
  have H1 := Lib.hid h1
  have H2 := Lib.hid h2
  clear h1 h2
  go_enter Tryd.func16, Tryd.ntmps16
  go_wp2_with fail
  go_loopw [5] (fun i wr => ∃ j : Nat, j ≤ n ∧ i = .int .i64 (j : Int) ∧ ∃ m, wr = w.drewN m) (fun i _ => n - (intOf i).toNat)
  case atStart => exact ⟨0, Nat.zero_le _, rfl, 0, rfl⟩
  case round =>
    obtain ⟨j, hj, rfl, m, hw⟩ := hrel
    by_cases hlt : j < n
    · obtain ⟨b1, o1, rfl, _, q1⟩ := H1.out (by omega)
      obtain ⟨b2, o2, rfl, _, q2⟩ := H2.out (by omega)
      obtain ⟨x, hx⟩ : ∃ x, xs[j]? = some x := ⟨_, List.getElem?_eq_getElem (show j < xs.length by omega)⟩
      have x1 : wr.cell? ⟨b1, o1 + j, none⟩ = some (.string x) := by rw [hw]; exact q1 j x hx
      have x2 : wr.cell? ⟨b2, o2 + j, none⟩ = some (.string x) := by rw [hw]; exact q2 j x hx
      have HW := Lib.hid hw
      clear q1 q2 hw hx
      go_wp2_with fail
      go_quiet (fail)
      go_wp2
      go_roundw
      case rel => exact ⟨j + 1, by omega, by go_num, _, by rw [HW.out, World.drewN_drewN]⟩
      case measure => simp [intOf]; omega
    · go_wp2
      go_ret
      exact ⟨rfl, m, rfl⟩
/-- What Keys tells of the document's map. -/
def KeysM (l : List Pr) (w : World) (e : Ending) (w' : World) : Prop := ∃ v, e = .returned v ∧ w'.ownsRow w.heap.size 9 1 v l.length ((l.map fun p => p.1).map Value.string) ∧ Below w.heap.size w w'
theorem infoStr1 : (Tryd.prog.info? 9).map (fun i => (i.zero, i.size, i.bytes)) = some (some (.string ⟨#[]⟩), 1, 16) := by kernel_rfl
def txV (l : List Pr) : List Value := (l.map fun p => p.1).map Value.string
theorem txV_len (l : List Pr) : (txV l).length = l.length := by simp [txV]
theorem txV_snoc {l : List Pr} {j : Nat} {p : Pr} (h : l[j]? = some p) : txV (l.take (j + 1)) = txV (l.take j) ++ [.string p.1] := by
  rw [List.take_add_one, h]; simp [txV]
set_option maxRecDepth 100000 in
theorem rKeys_any (B : Nat) (w : World) (bM : Nat) (v : Value) (l : List Pr) (most : Nat) (hl : l.length ≤ 256) (h : Mp B w bM v l most) : Calls Tryd.prog 18 #[.pointer (some ⟨bM, 0, none⟩)] w (KeysM l w) := by
  obtain ⟨A, cap, rfl, hc, hm, hA⟩ := h.o.at_
  have HA := Lib.hid (fun w' (hb : Below w.heap.size w w') => show PrAt w' A l from by
    obtain ⟨A', cap', e, _, _, h3⟩ := (h.below hb).o.at_
    obtain rfl : A = A' := by injection e
    exact h3)
  have HC := Lib.hid (fun w' (hb : Below w.heap.size w w') => show w'.cell? ⟨bM, 0, none⟩ = some (.slice A l.length cap) from (h.below hb).h.cell 0)
  unfold maxLen at hm
  obtain ⟨n, hn⟩ : ∃ n, l.length = n := ⟨_, rfl⟩
  rw [hn] at HC hl hc
  have HN := Lib.hid hn
  have HO0 := Lib.hid (Own1.nil w.heap.size 9 w)
  clear h hA hn
  go_enter Tryd.func18, Tryd.ntmps18
  go_wp2_with fail
  go_loopw [3, 4] (fun o i wr => ∃ j : Nat, j ≤ n ∧ i = .int .i64 (j : Int) ∧ Hid (Own1 w.heap.size 9 wr o (txV (l.take j))) ∧ Hid (Below w.heap.size w wr)) (fun _ i _ => n - (intOf i).toNat)
  case atStart => exact ⟨0, Nat.zero_le _, rfl, HO0, Below.refl _ _⟩
  case round =>
    obtain ⟨j, hj, rfl, HO, HB⟩ := hrel
    have c0 := HC.out wr HB.out
    by_cases hlt : j < n
    · have hlen := HN.out
      obtain ⟨b, off, rfl, hb, hcell⟩ := HA.out wr HB.out (by omega)
      obtain ⟨p, hp⟩ : ∃ p, l[j]? = some p := ⟨_, List.getElem?_eq_getElem (show j < l.length by omega)⟩
      have x1 := (hcell j p hp).1
      have HP := Lib.hid hp
      have LN := Lib.hid (show (txV (l.take j)).length = j by rw [txV_len, List.length_take]; omega)
      clear hcell hp hlen
      go_wp2_with (at_builtin; refine wpList_append_own1 wr wr.heap.size rfl rfl _ _ 41 rfl 9 (.string ⟨#[]⟩) 16 Tryd.underlying41 infoStr1 rfl (by decide) _ (.string p.1) (txV (l.take j)) j LN.out rfl rfl rfl HO.out HB.out.size (by omega) ?_)
      intro g cp w5 ho hk hor hg
      have HO5 := Lib.hid (show Own1 w.heap.size 9 w5 (.slice (some ⟨g, 0, none⟩) (j + 1) cp) (txV (l.take (j + 1))) from by rw [txV_snoc HP.out]; exact ho)
      have HB5 := Lib.hid (show Below w.heap.size w w5 from HB.out.trans (hk.below HB.out.size (fun b hb e => by have := HO.out.ge e; omega)))
      clear ho hk hor hg
      go_wp2
      go_roundw
      case rel => exact ⟨j + 1, by omega, by go_num, HO5, HB5⟩
      case measure => simp [intOf]; omega
    · obtain rfl : j = n := by omega
      go_wp2
      go_ret
      have := HO.out.1
      rw [List.take_of_length_le (by rw [HN.out]; exact Nat.le_refl _), txV_len] at this
      exact ⟨_, rfl, this, HB.out⟩
end Go.Proofs.YtgcdminjpdbchaaDoor
