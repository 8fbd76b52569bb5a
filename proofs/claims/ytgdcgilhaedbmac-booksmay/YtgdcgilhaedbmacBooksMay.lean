/- For every list of books, every two numbers and every policy the law BooksMay returns true: of books that may be come books that may be; what is set is got, and all others are as they were. No condition. -/
import Derived.Test.YtgdcgilhaedbmacRows
import Derived.Test.YtgdcgilhaedbmacBkLive
import Derived.Test.YtgdcgilhaedbmacBkOpen
import Derived.Deep.DeepCutAuto
namespace Go.Proofs.Ytgdcgilhaedbmac.booksMay
open Go.ChangeShapes Go.WideShapes Go.ChangeAt Go.RowKit
set_option linter.unusedVariables false

theorem putB_eq (L : Nat → Bk) (j : Nat) (B : Bk) : putB L j B j = B := if_pos rfl
theorem putB_ne (L : Nat → Bk) {j i : Nat} (B : Bk) (h : i ≠ j) : putB L j B i = L i := if_neg h
theorem may_set {n : Nat} {L : Nat → Bk} {id k l v b c : Int} (h : MayBs n L) (hc : SetC n L id k l v b c) : MayBs n (setL c L id k l v b) := by
  unfold setL
  by_cases h0 : c = 0
  · rw [if_pos h0]
    rcases hc with ⟨q, _⟩ | ⟨q, _⟩ | ⟨_, _, hi, hp, hv⟩
    · omega
    · omega
    · refine ⟨h.1, fun i h8 => ?_⟩
      by_cases e : i = id.toNat
      · rw [e, putB_eq]
        have := (h.2 id.toNat (by omega)).n0
        exact ⟨by simp only; omega, by simp only; omega, fun _ => ⟨hp, by simp only; omega⟩, fun q => by cases q⟩
      · rw [putB_ne L _ e]; exact h.2 i h8
  · rw [if_neg h0]; exact h
theorem may_del {n : Nat} {L : Nat → Bk} {id c : Int} (h : MayBs n L) (hc : GetC n L id c) : MayBs n (delL c L id) := by
  unfold delL
  by_cases h0 : c = 0
  · rw [if_pos h0]
    rcases hc with ⟨q, _⟩ | ⟨q, _⟩ | ⟨_, _, hi, _⟩
    · omega
    · omega
    · refine ⟨h.1, fun i h8 => ?_⟩
      by_cases e : i = id.toNat
      · rw [e, putB_eq]
        have q := h.2 id.toNat (by omega)
        exact ⟨by have := q.n0; simp only; omega, by have := q.n1; simp only; omega, fun q => (by cases q), fun _ => ⟨rfl, rfl, rfl, rfl⟩⟩
      · rw [putB_ne L _ e]; exact h.2 i h8
  · rw [if_neg h0]; exact h
/-- Another book's number has what it had. -/
theorem get_other {n : Nat} {L M : Nat → Bk} {id c : Int} (h : MayBs n L) (hm : MayBs n M) (hc : GetC n L id c) (e : 0 ≤ id ∧ id < 8 → M id.toNat = L id.toNat) : GetC n M id c ∧ gotV c (M id.toNat) = gotV c (L id.toNat) := by
  rcases hc with ⟨q, h1⟩ | ⟨q, h1, h2, h3⟩ | ⟨q, h1, h2, h3⟩
  · refine ⟨.inl ⟨q, fun r => h1 ⟨h, r.2⟩⟩, ?_⟩
    subst q; rfl
  · exact ⟨.inr (.inl ⟨q, hm, h2, by rw [e h2]; exact h3⟩), by rw [e h2]⟩
  · exact ⟨.inr (.inr ⟨q, hm, h2, by rw [e h2]; exact h3⟩), by rw [e h2]⟩
/-- All that lies in memory. -/
structure St (W : World) (n0 n1 k l v b : Int) (A1 A2 : Option Addr) (LS LD : Nat → Bk) (w : World) : Prop where
  nb : Has w W.heap.size 41 [.int .i64 n0, .int .i64 n1]
  pb : Has w (W.heap.size + 1) 25 [.int .i64 k, .int .i64 l, .int .i64 v, .int .i64 b]
  be : Below W.heap.size W w
  kx : BksAt w A1 8 LS
  ku : BksAt w A2 8 LD
section
variable {W : World} {n0 n1 k l v b : Int} {A1 A2 : Option Addr} {LS LD : Nat → Bk} {w w' : World}
theorem St.step (h : St W n0 n1 k l v b A1 A2 LS LD w) (hb : Below w.heap.size w w') : St W n0 n1 k l v b A1 A2 LS LD w' := ⟨hstep h.nb hb, hstep h.pb hb, h.be.trans (hb.mono h.be.size), h.kx.below hb, h.ku.below hb⟩
theorem St.cells (h : St W n0 n1 k l v b A1 A2 LS LD w) : (w.cell? ⟨W.heap.size, 0, none⟩ = some (.int .i64 n0) ∧ w.cell? ⟨W.heap.size, 1, none⟩ = some (.int .i64 n1)) ∧ w.cell? ⟨W.heap.size + 1, 0, none⟩ = some (.int .i64 k) ∧ w.cell? ⟨W.heap.size + 1, 1, none⟩ = some (.int .i64 l) ∧ w.cell? ⟨W.heap.size + 1, 2, none⟩ = some (.int .i64 v) ∧ w.cell? ⟨W.heap.size + 1, 3, none⟩ = some (.int .i64 b) := ⟨⟨h.nb.cell 0, h.nb.cell 1⟩, hfour h.pb⟩
end
/-- The two arguments in two new blocks. -/
structure S0 (W : World) (n0 n1 k l v b : Int) (w : World) : Prop where
  nb : Has w W.heap.size 41 [.int .i64 n0, .int .i64 n1]
  pb : Has w (W.heap.size + 1) 25 [.int .i64 k, .int .i64 l, .int .i64 v, .int .i64 b]
  be : Below W.heap.size W w
theorem S0.made (W : World) (n0 n1 k l v b : Int) : S0 W n0 n1 k l v b ((W.alloc (.cells #[.int .i64 n0, .int .i64 n1] 41)).alloc (.cells #[.int .i64 k, .int .i64 l, .int .i64 v, .int .i64 b] 25)) :=
  ⟨(Has.made W 41 [.int .i64 n0, .int .i64 n1]).alloc _, (by simpa using Has.made (W.alloc (.cells #[.int .i64 n0, .int .i64 n1] 41)) 25 [.int .i64 k, .int .i64 l, .int .i64 v, .int .i64 b]), ((Below.refl _ _).alloc (Nat.le_refl _) _).alloc (by simp) _⟩
theorem S0.step {W : World} {n0 n1 k l v b : Int} {w w' : World} (h : S0 W n0 n1 k l v b w) (hb : Below w.heap.size w w') : S0 W n0 n1 k l v b w' := ⟨hstep h.nb hb, hstep h.pb hb, h.be.trans (hb.mono h.be.size)⟩
theorem S0.cells {W : World} {n0 n1 k l v b : Int} {w : World} (h : S0 W n0 n1 k l v b w) : (w.cell? ⟨W.heap.size, 0, none⟩ = some (.int .i64 n0) ∧ w.cell? ⟨W.heap.size, 1, none⟩ = some (.int .i64 n1)) ∧ w.cell? ⟨W.heap.size + 1, 0, none⟩ = some (.int .i64 k) ∧ w.cell? ⟨W.heap.size + 1, 1, none⟩ = some (.int .i64 l) ∧ w.cell? ⟨W.heap.size + 1, 2, none⟩ = some (.int .i64 v) ∧ w.cell? ⟨W.heap.size + 1, 3, none⟩ = some (.int .i64 b) := ⟨⟨h.nb.cell 0, h.nb.cell 1⟩, hfour h.pb⟩
set_option maxRecDepth 100000 in
set_option maxHeartbeats 4000000 in
theorem no (A : Option Addr) (len cap : Nat) (L : Nat → Bk) (n0 n1 k l v b : Int) (W : World) (hm : len ≤ maxLen) (hh : BksAt W A len L) (h : ¬ (len ≤ 20 ∧ MayBs len L)) : Calls Try.prog 5 #[.slice A len cap, .agg #[.int .i64 n0, .int .i64 n1], .agg #[.int .i64 k, .int .i64 l, .int .i64 v, .int .i64 b]] W fun e w' => e = .returned (.bool true) ∧ Below W.heap.size W w' := by
  have HP := Lib.hid (S0.made W n0 n1 k l v b)
  by_cases hn : len ≤ 20
  · have d : decide ((20 : Int) < (len : Int)) = false := by simp; omega
    have MK := Lib.hid (fun u (hu : Below W.heap.size W u) => May_any false A len cap L u (hh.below hu) (by omega) ⟨fun q => absurd ⟨hn, q⟩ h, fun q => by cases q⟩)
    clear h hh
    go_enter Try.func5, Try.ntmps5
    go_wp2_with fail
    refine (MK.out _ HP.out.be).mono ?_; rintro e w1 ⟨rfl, hb⟩
    have H1 := Lib.hid (HP.out.step hb)
    clear hb
    go_wp2_with fail
    refine (live_any _).mono ?_; rintro e wl ⟨rfl, hb⟩
    have HB := Lib.hid (H1.out.step hb)
    clear hb
    go_wp2_with fail
    go_ret
    exact ⟨rfl, HB.out.be⟩
  · unfold maxLen at hm
    have d : decide ((20 : Int) < (len : Int)) = true := by simp; omega
    clear h hh
    go_enter Try.func5, Try.ntmps5
    go_wp2_with fail
    refine (live_any _).mono ?_; rintro e wl ⟨rfl, hb⟩
    have HB := Lib.hid (HP.out.step hb)
    clear hb
    go_wp2_with fail
    go_ret
    exact ⟨rfl, HB.out.be⟩
set_option maxRecDepth 100000 in
set_option maxHeartbeats 8000000 in
theorem yes (A : Option Addr) (cap : Nat) (L : Nat → Bk) (n0 n1 k l v b : Int) (W : World) (hh : BksAt W A 8 L) (h : MayBs 8 L) : Calls Try.prog 5 #[.slice A 8 cap, .agg #[.int .i64 n0, .int .i64 n1], .agg #[.int .i64 k, .int .i64 l, .int .i64 v, .int .i64 b]] W fun e w' => e = .returned (.bool true) ∧ Below W.heap.size W w' := by
  have HP := Lib.hid (S0.made W n0 n1 k l v b)
  have HH := Lib.hid hh
  have MK := Lib.hid (fun u (hu : Below W.heap.size W u) => May_any true A 8 cap L u (hh.below hu) (by omega) ⟨fun _ => rfl, fun _ => h⟩)
  obtain ⟨c, hc⟩ := setC_ex 8 L n0 k l v b
  obtain ⟨c2, hc2⟩ := getC_ex 8 L n0
  obtain ⟨c3, hc3⟩ := getC_ex 8 L n1
  have S1 := Lib.hid (fun u (hu : Below W.heap.size W u) => Set_any A 8 cap L n0 k l v b c u (hh.below hu) (by omega) hc)
  have D1 := Lib.hid (fun u (hu : Below W.heap.size W u) => Delete_any A 8 cap L n0 c2 u (hh.below hu) (by omega) hc2)
  have mS := may_set h hc
  have mD := may_del h hc2
  -- what is set is got
  have EQ1 : c = 0 → GetC 8 (setL c L n0 k l v b) n0 0 ∧ gotV 0 (setL c L n0 k l v b n0.toNat) = ⟨true, k, l, v, b, setM c L n0⟩ ∧ MayP k l v b ∧ (0 ≤ n0 ∧ n0 < 8) ∧ setM c L n0 = (L n0.toNat).n + 1 ∧ (L n0.toNat).n < 1073741824 ∧ 0 ≤ (L n0.toNat).n := by
    intro e
    have hs : setL c L n0 k l v b n0.toNat = ⟨true, k, l, v, b, setM c L n0⟩ := by unfold setL setM; rw [if_pos e, if_pos e, putB_eq]
    rcases hc with ⟨q, _⟩ | ⟨q, _⟩ | ⟨_, _, hi, hp, hv⟩
    · omega
    · omega
    · exact ⟨.inr (.inr ⟨rfl, mS, hi, by rw [hs]⟩), by rw [hs]; rfl, hp, hi, by unfold setM; rw [if_pos e], hv, (h.2 n0.toNat (by omega)).n0⟩
  have EQ2 : c2 = 0 → GetC 8 (delL c2 L n0) n0 5 := by
    intro e
    have hs : (delL c2 L n0 n0.toNat).on = false := by unfold delL; rw [if_pos e, putB_eq]
    rcases hc2 with ⟨q, _⟩ | ⟨q, _⟩ | ⟨_, _, hi, _⟩
    · omega
    · omega
    · exact .inr (.inl ⟨rfl, mD, hi, hs⟩)
  have EL1 : c ≠ 0 → setL c L n0 k l v b = L ∧ setM c L n0 = 0 := fun e => by unfold setL setM; rw [if_neg e, if_neg e]; exact ⟨rfl, rfl⟩
  have EL2 : c2 ≠ 0 → delL c2 L n0 = L := fun e => by unfold delL; rw [if_neg e]
  have EO : n0 ≠ n1 → (GetC 8 (setL c L n0 k l v b) n1 c3 ∧ gotV c3 (setL c L n0 k l v b n1.toNat) = gotV c3 (L n1.toNat)) ∧ (GetC 8 (delL c2 L n0) n1 c3 ∧ gotV c3 (delL c2 L n0 n1.toNat) = gotV c3 (L n1.toNat)) := by
    intro hne
    refine ⟨get_other h mS hc3 (fun hi => ?_), get_other h mD hc3 (fun hi => ?_)⟩
    · unfold setL
      by_cases e : c = 0
      · rw [if_pos e, putB_ne]
        have := (EQ1 e).2.2.2.1
        omega
      · rw [if_neg e]
    · unfold delL
      by_cases e : c2 = 0
      · rw [if_pos e, putB_ne]
        rcases hc2 with ⟨q, _⟩ | ⟨q, _⟩ | ⟨_, _, hi2, _⟩ <;> omega
      · rw [if_neg e]
  have CK := Lib.hid (fun u (hp : MayP k l v b) => rCheck_yes k l v b u hp)
  have G3 := Lib.hid (fun u (hu : Below W.heap.size W u) => Get_any A 8 cap L n1 c3 u (hh.below hu) (by omega) hc3)
  have MX := Lib.hid mS
  have MD := Lib.hid mD
  generalize setL c L n0 k l v b = LS at *
  generalize hmm : setM c L n0 = m at *
  generalize delL c2 L n0 = LD at *
  have E1 := Lib.hid EQ1
  have E2 := Lib.hid EQ2
  have F1 := Lib.hid EL1
  have F2 := Lib.hid EL2
  have F3 := Lib.hid EO
  clear hh hc hc2 hc3 h mS mD EQ1 EQ2 EL1 EL2 EO hmm
  go_enter Try.func5, Try.ntmps5
  go_wp2_with fail
  refine (MK.out _ HP.out.be).mono ?_; rintro e w1 ⟨rfl, hb⟩
  have H1 := Lib.hid (HP.out.step hb)
  clear hb HP MK
  obtain ⟨⟨x0, x1⟩, p0, p1, p2, p3⟩ := H1.out.cells
  go_wp2_with fail
  refine (S1.out _ H1.out.be).mono ?_; rintro e w2 ⟨A1, cc1, rfl, h2, hb⟩
  have H2 := Lib.hid (H1.out.step hb)
  have K2 := Lib.hid h2
  clear hb h2 S1 H1 x0 x1 p0 p1 p2 p3
  obtain ⟨⟨x0, x1⟩, p0, p1, p2, p3⟩ := H2.out.cells
  go_wp2_with fail
  refine (D1.out _ H2.out.be).mono ?_; rintro e w3 ⟨A2, cc2, rfl, h3, hb⟩
  have hz := H2.out.step hb
  have H3 := Lib.hid (show St W n0 n1 k l v b A1 A2 LS LD w3 from ⟨hz.nb, hz.pb, hz.be, K2.out.below hb, h3⟩)
  clear hb h3 D1 H2 K2 hz x0 x1 p0 p1 p2 p3
  have M1 := Lib.hid (fun u (hu : BksAt u A1 8 LS) => May_any true A1 8 cc1 LS u hu (by omega) ⟨fun _ => rfl, fun _ => MX.out⟩)
  have M2 := Lib.hid (fun u (hu : BksAt u A2 8 LD) => May_any true A2 8 cc2 LD u hu (by omega) ⟨fun _ => rfl, fun _ => MD.out⟩)
  go_upto_region 5 with (fail)
  go_cut [88] (fun s88 wx => s88 = .bool false ∧ St W n0 n1 k l v b A1 A2 LS LD wx)
  case first =>
    by_cases h0 : c = 0
    · have dc : (c != 0) = false := by simp [h0]
      by_cases h2 : c2 = 0
      · have dd : (c2 != 0) = false := by simp [h2]
        clear h0 h2
        go_wp2_with fail
        refine (M1.out _ H3.out.kx).mono ?_; rintro e w4 ⟨rfl, hb⟩
        have H4 := Lib.hid (H3.out.step hb)
        clear hb
        go_wp2_with fail
        refine (M2.out _ H4.out.ku).mono ?_; rintro e w5 ⟨rfl, hb⟩
        have H5 := Lib.hid (H4.out.step hb)
        clear hb
        go_wp2_with fail
        go_meet
        exact ⟨rfl, H5.out⟩
      · have dd : (c2 != 0) = true := by simp [h2]
        obtain rfl := F2.out h2
        have SD := Lib.hid (fun u (hu : BksAt u A2 8 LD) (hv : Below W.heap.size W u) => Same_eq A2 A 8 cc2 cap LD u hu (HH.out.below hv) (by decide))
        clear h0 h2
        go_wp2_with fail
        refine (M1.out _ H3.out.kx).mono ?_; rintro e w4 ⟨rfl, hb⟩
        have H4 := Lib.hid (H3.out.step hb)
        clear hb
        go_wp2_with fail
        refine (M2.out _ H4.out.ku).mono ?_; rintro e w5 ⟨rfl, hb⟩
        have H5 := Lib.hid (H4.out.step hb)
        clear hb
        go_wp2_with fail
        refine (SD.out _ H5.out.ku H5.out.be).mono ?_; rintro e w6 ⟨rfl, hb⟩
        have H6 := Lib.hid (H5.out.step hb)
        clear hb
        go_wp2_with fail
        go_meet
        exact ⟨rfl, H6.out⟩
    · have dc : (c != 0) = true := by simp [h0]
      obtain ⟨rfl, rfl⟩ := F1.out h0
      have SS := Lib.hid (fun u (hu : BksAt u A1 8 LS) (hv : Below W.heap.size W u) => Same_eq A1 A 8 cc1 cap LS u hu (HH.out.below hv) (by decide))
      by_cases h2 : c2 = 0
      · have dd : (c2 != 0) = false := by simp [h2]
        clear h0 h2
        go_wp2_with fail
        refine (M1.out _ H3.out.kx).mono ?_; rintro e w4 ⟨rfl, hb⟩
        have H4 := Lib.hid (H3.out.step hb)
        clear hb
        go_wp2_with fail
        refine (M2.out _ H4.out.ku).mono ?_; rintro e w5 ⟨rfl, hb⟩
        have H5 := Lib.hid (H4.out.step hb)
        clear hb
        go_wp2_with fail
        refine (SS.out _ H5.out.kx H5.out.be).mono ?_; rintro e w6 ⟨rfl, hb⟩
        have H6 := Lib.hid (H5.out.step hb)
        clear hb
        go_wp2_with fail
        go_meet
        exact ⟨rfl, H6.out⟩
      · have dd : (c2 != 0) = true := by simp [h2]
        obtain rfl := F2.out h2
        have SD := Lib.hid (fun u (hu : BksAt u A2 8 LD) (hv : Below W.heap.size W u) => Same_eq A2 A 8 cc2 cap LD u hu (HH.out.below hv) (by decide))
        clear h0 h2
        go_wp2_with fail
        refine (M1.out _ H3.out.kx).mono ?_; rintro e w4 ⟨rfl, hb⟩
        have H4 := Lib.hid (H3.out.step hb)
        clear hb
        go_wp2_with fail
        refine (M2.out _ H4.out.ku).mono ?_; rintro e w5 ⟨rfl, hb⟩
        have H5 := Lib.hid (H4.out.step hb)
        clear hb
        go_wp2_with fail
        refine (SS.out _ H5.out.kx H5.out.be).mono ?_; rintro e w6 ⟨rfl, hb⟩
        have H6 := Lib.hid (H5.out.step hb)
        clear hb
        go_wp2_with fail
        refine (SD.out _ H6.out.ku H6.out.be).mono ?_; rintro e w7 ⟨rfl, hb⟩
        have H7 := Lib.hid (H6.out.step hb)
        clear hb
        go_wp2_with fail
        go_meet
        exact ⟨rfl, H7.out⟩
  case rest =>
  obtain ⟨rfl, hz⟩ := hcut
  have H4 := Lib.hid hz
  clear hz H3 M1 M2 F1 F2 MX MD
  go_upto_if 90 with (fail)
  go_cut [] (fun wx => St W n0 n1 k l v b A1 A2 LS LD wx)
  case first =>
    by_cases h0 : c = 0
    · have dc : (c == 0) = true := by simp [h0]
      obtain ⟨g1, g2, hp, hi, hm, hv, hv0⟩ := E1.out h0
      obtain ⟨i, rfl⟩ : ∃ i : Nat, n0 = (i : Int) := ⟨n0.toNat, by omega⟩
      have GX := Lib.hid (fun u (hu : BksAt u A1 8 LS) => (by have := Get_any A1 8 cc1 LS (i : Int) 0 u hu (by omega) g1; rw [g2] at this; exact this : Calls Try.prog 9 #[.slice A1 8 cc1, .int .i64 (i : Int)] u fun e w' => e = .returned (.tuple #[.agg #[.int .i64 k, .int .i64 l, .int .i64 v, .int .i64 b], .int .i64 m, .int .i64 0]) ∧ Below u.heap.size u w'))
      have CP := Lib.hid (fun u => CK.out u hp)
      rw [Int.toNat_natCast] at hm hv hv0
      obtain ⟨b1, o1, rfl⟩ := HH.out.some (by omega)
      have HS := Lib.hid (HH.out.six (show i < 8 by omega))
      have B0 : (0 : Int) ≤ (i : Int) := by omega
      have B1 : (i : Int) < 8 := by omega
      obtain ⟨z, hz⟩ : ∃ z, (L i).n = z := ⟨_, rfl⟩
      have HZ := Lib.hid hz
      rw [hz] at hm hv hv0
      have z0 : -1 ≤ z := by omega
      have ez : IntKind.i64.wrap (z + 1) = z + 1 := wrap_i (by omega) (by omega)
      subst hm
      clear h0 g1 g2 hp hi hz E1 E2 F3 G3 CK
      obtain ⟨⟨x0, x1⟩, p0, p1, p2, p3⟩ := H4.out.cells
      go_wp2_with fail
      refine (GX.out _ H4.out.kx).mono ?_; rintro e w5 ⟨rfl, hb⟩
      have H5 := Lib.hid ((H4.out.step hb).step ((Below.refl _ _).alloc (Nat.le_refl _) (.cells #[.int .i64 k, .int .i64 l, .int .i64 v, .int .i64 b] 25)))
      have P5 := Lib.hid (Has.made w5 25 [.int .i64 k, .int .i64 l, .int .i64 v, .int .i64 b])
      clear hb x0 x1 p0 p1 p2 p3
      have q5 := (HS.out.2.below HS.out.1 H5.out.be).2.2.2.2.2
      rw [HZ.out] at q5
      obtain ⟨⟨x0, x1⟩, p0, p1, p2, p3⟩ := H5.out.cells
      obtain ⟨r0, r1, r2, r3⟩ := hfour P5.out
      go_wp2_with fail
      refine (CP.out _).mono ?_; rintro e w6 ⟨rfl, hb⟩
      have H6 := Lib.hid (H5.out.step hb)
      clear hb
      go_wp2_with fail
      go_meet
      exact H6.out
    · have dc : (c == 0) = false := by simp [h0]
      clear h0
      go_wp2_with fail
      go_meet
      exact H4.out
  case rest =>
  have H7 := Lib.hid hcut
  clear hcut H4 E1 CK
  go_upto_if 128 with (fail)
  go_cut [] (fun wx => St W n0 n1 k l v b A1 A2 LS LD wx)
  case first =>
    by_cases h0 : c2 = 0
    · have dc : (c2 == 0) = true := by simp [h0]
      have g1 := E2.out h0
      have GX := Lib.hid (fun u (hu : BksAt u A2 8 LD) => Get_any A2 8 cc2 LD n0 5 u hu (by omega) g1)
      generalize gotV 5 (LD n0.toNat) = Q at GX
      obtain ⟨qo, qk, ql, qv, qb, qn⟩ := Q
      clear h0 g1 E2 F3 G3
      obtain ⟨⟨x0, x1⟩, p0, p1, p2, p3⟩ := H7.out.cells
      go_wp2_with fail
      refine (GX.out _ H7.out.ku).mono ?_; rintro e w5 ⟨rfl, hb⟩
      have H8 := Lib.hid ((H7.out.step hb).step ((Below.refl _ _).alloc (Nat.le_refl _) (.cells #[.int .i64 qk, .int .i64 ql, .int .i64 qv, .int .i64 qb] 25)))
      clear hb
      go_wp2_with fail
      go_meet
      exact H8.out
    · have dc : (c2 == 0) = false := by simp [h0]
      clear h0
      go_wp2_with fail
      go_meet
      exact H7.out
  case rest =>
  have H9 := Lib.hid hcut
  clear hcut H7 E2
  obtain ⟨⟨x0, x1⟩, p0, p1, p2, p3⟩ := H9.out.cells
  by_cases hne : n0 = n1
  · have dn : (n0 == n1) = true := by simp [hne]
    clear hne F3 G3
    go_wp2_with fail
    refine (live_any _).mono ?_; rintro e wc ⟨rfl, hb⟩
    have Hc := Lib.hid (H9.out.step hb)
    clear hb
    go_wp2_with fail
    go_ret
    exact ⟨rfl, Hc.out.be⟩
  · have dn : (n0 == n1) = false := by simp [hne]
    obtain ⟨⟨g1, e1⟩, g2, e2⟩ := F3.out hne
    have GX := Lib.hid (fun u (hu : BksAt u A1 8 LS) => Get_any A1 8 cc1 LS n1 c3 u hu (by omega) g1)
    have GU := Lib.hid (fun u (hu : BksAt u A2 8 LD) => Get_any A2 8 cc2 LD n1 c3 u hu (by omega) g2)
    rw [e1] at GX
    rw [e2] at GU
    generalize gotV c3 (L n1.toNat) = Q at GX GU G3
    obtain ⟨qo, qk, ql, qv, qb, qn⟩ := Q
    clear hne F3 g1 g2 e1 e2
    go_wp2_with fail
    refine (G3.out _ H9.out.be).mono ?_; rintro e w5 ⟨rfl, hb⟩
    have H10 := Lib.hid ((H9.out.step hb).step ((Below.refl _ _).alloc (Nat.le_refl _) (.cells #[.int .i64 qk, .int .i64 ql, .int .i64 qv, .int .i64 qb] 25)))
    have P10 := Lib.hid (Has.made w5 25 [.int .i64 qk, .int .i64 ql, .int .i64 qv, .int .i64 qb])
    clear hb x0 x1 p0 p1 p2 p3 H9
    obtain ⟨⟨x0, x1⟩, p0, p1, p2, p3⟩ := H10.out.cells
    go_wp2_with fail
    refine (GX.out _ H10.out.kx).mono ?_; rintro e w6 ⟨rfl, hb⟩
    have bb := (Below.refl w6.heap.size w6).alloc (Nat.le_refl _) (.cells #[.int .i64 qk, .int .i64 ql, .int .i64 qv, .int .i64 qb] 25)
    have H11 := Lib.hid ((H10.out.step hb).step bb)
    have P11 := Lib.hid (hstep (hstep P10.out hb) bb)
    have Q11 := Lib.hid (Has.made w6 25 [.int .i64 qk, .int .i64 ql, .int .i64 qv, .int .i64 qb])
    clear hb bb x0 x1 p0 p1 p2 p3 H10 P10
    obtain ⟨⟨x0, x1⟩, p0, p1, p2, p3⟩ := H11.out.cells
    go_wp2_with fail
    refine (GU.out _ H11.out.ku).mono ?_; rintro e w7 ⟨rfl, hb⟩
    have bb := (Below.refl w7.heap.size w7).alloc (Nat.le_refl _) (.cells #[.int .i64 qk, .int .i64 ql, .int .i64 qv, .int .i64 qb] 25)
    have H12 := Lib.hid ((H11.out.step hb).step bb)
    have P12 := Lib.hid (hstep (hstep P11.out hb) bb)
    have Q12 := Lib.hid (hstep (hstep Q11.out hb) bb)
    have R12 := Lib.hid (Has.made w7 25 [.int .i64 qk, .int .i64 ql, .int .i64 qv, .int .i64 qb])
    clear hb bb x0 x1 p0 p1 p2 p3 H11 P11 Q11
    obtain ⟨y0, y1, y2, y3⟩ := hfour P12.out
    obtain ⟨z0, z1, z2, z3⟩ := hfour Q12.out
    obtain ⟨r0, r1, r2, r3⟩ := hfour R12.out
    go_wp2_with fail
    refine (live_any _).mono ?_; rintro e wc ⟨rfl, hb⟩
    have Hc := Lib.hid (H12.out.step hb)
    clear hb
    go_wp2_with fail
    go_ret
    exact ⟨rfl, Hc.out.be⟩
theorem walk (A : Option Addr) (len cap : Nat) (n0 n1 k l v b : Int) {W : World} (h : IsBks W A len cap) (j0 : (Lit.int .i64 n0).wf = true) (j1 : (Lit.int .i64 n1).wf = true) (i0 : (Lit.int .i64 k).wf = true) (i1 : (Lit.int .i64 l).wf = true) (i2 : (Lit.int .i64 v).wf = true) (i3 : (Lit.int .i64 b).wf = true) : Calls Try.prog 5 #[.slice A len cap, .agg ([n0, n1].map (Value.int .i64)).toArray, .agg #[.int .i64 k, .int .i64 l, .int .i64 v, .int .i64 b]] W fun e w' => e = .returned (.bool true) ∧ Below W.heap.size W w' := by
  show Calls Try.prog 5 #[.slice A len cap, .agg #[.int .i64 n0, .int .i64 n1], .agg #[.int .i64 k, .int .i64 l, .int .i64 v, .int .i64 b]] W fun e w' => e = .returned (.bool true) ∧ Below W.heap.size W w'
  obtain ⟨q1, q2, L, hL⟩ := h
  by_cases hn : len ≤ 20 ∧ MayBs len L
  · obtain rfl : len = 8 := hn.2.1
    exact yes A cap L n0 n1 k l v b W hL hn.2
  · exact no A len cap L n0 n1 k l v b W (Nat.le_trans q1 q2) hL hn

theorem own : ownKnob Try.prog.godebug = none := by kernel_rfl
theorem laidOut : laidOutB Try.prog = true := by kernel_rfl
theorem contract (H : Type) (enc : TypeId × Value → H) (W : World) (base : Nat) (args : Array Value) (ds gs : List (DataW H)) (before : List MemPlace)
    (hval : ∀ (j : Nat) t v, Try.f5.params[j]? = some t → args[j]? = some v → Value.okWide Try.prog W .any base t v)
    (hW : DataW.Whole enc Try.prog Try.f5.params.toList Rows.booksMaySpec.vars false W args.toList ds gs before) :
    Calls Try.prog 5 args W fun e W' => ∃ v, e = .returned v ∧ Rows.booksMaySpec.post enc Try.prog Try.f5 false true false false W args v W' := by
  have hW' := hW
  obtain ⟨p, q, hA0, hV, rfl, hfz, hnd⟩ := hW
  have hA : DataW.TrodAll enc Try.prog W 0 (fun _ => true) true Try.f5.params.toList args.toList ds p := hA0
  rw [Try.params5] at hA hval
  obtain ⟨v0, vs0, d0, ds0, p0, q0, hargs, rfl, rfl, h0, r0⟩ := trodAll_cons hA
  obtain ⟨v1, vs1, d1, ds1, p1, q1, rfl, rfl, rfl, h1, r1⟩ := trodAll_cons r0
  obtain ⟨v2, vs2, d2, ds2, p2, q2, rfl, rfl, rfl, h2, r2⟩ := trodAll_cons r1
  obtain ⟨rfl, rfl, rfl⟩ := trodAll_nil r2
  obtain rfl : args = #[v0, v1, v2] := by cases args; simp_all
  obtain ⟨rfl, rfl⟩ := trodVars_none hV
  have k0 := h0
  have lt0 : ∀ x ∈ p0, x.block < W.heap.size := by obtain ⟨m, hm⟩ := k0; exact DataW.trod_lt m _ _ _ hm
  obtain ⟨a0, len0, cap0, rfl, w0⟩ := open_books (hval 0 22 v0 rfl rfl) h0
  have k1 := h1
  have lt1 : ∀ x ∈ p1, x.block < W.heap.size := by obtain ⟨m, hm⟩ := k1; exact DataW.trod_lt m _ _ _ hm
  obtain ⟨l1, rfl, hl1, wl1⟩ := open_arr_int Try.underlying41 Try.underlying3 (by kernel_rfl) (by kernel_rfl) (hval 1 41 v1 rfl rfl) h1
  obtain ⟨x1_0, x1_1, rfl⟩ : ∃ x1_0 x1_1, l1 = [x1_0, x1_1] := by
    match l1, hl1 with
    | [x1_0, x1_1], _ => exact ⟨x1_0, x1_1, rfl⟩
  have k2 := h2
  have lt2 : ∀ x ∈ p2, x.block < W.heap.size := by obtain ⟨m, hm⟩ := k2; exact DataW.trod_lt m _ _ _ hm
  obtain ⟨p2_k, p2_l, p2_v, p2_b, rfl, wp2_k, wp2_l, wp2_v, wp2_b⟩ := open_pol (hval 2 25 v2 rfl rfl) h2
  clear hA0
  refine (walk a0 len0 cap0 x1_0 x1_1 p2_k p2_l p2_v p2_b w0 (wl1 x1_0 (by simp)) (wl1 x1_1 (by simp)) wp2_k wp2_l wp2_v wp2_b).mono fun e W' ⟨he, bel⟩ => ?_
  subst he
  exact ⟨_, rfl, _, _, _, [], _, [], hW', trodAll_mk1 (shut_bool Try.underlying4 _), (trodAll_cons_mk (Below.trod laidOut (by kernel_rfl) (of_decide_eq_true (by kernel_rfl)) k0 bel lt0) (trodAll_cons_mk (Below.trod laidOut (by kernel_rfl) (of_decide_eq_true (by kernel_rfl)) k1 bel lt1) (trodAll_cons_mk (Below.trod laidOut (by kernel_rfl) (of_decide_eq_true (by kernel_rfl)) k2 bel lt2) trodAll_mk0))), rfl, bel.frame _, fun h => by cases h⟩

set_option maxRecDepth 100000 in
theorem lifted (os : Os) (started : os.Started) (H : Type) (enc : TypeId × Value → H) :
    ReturnsInHanded {} Try.checked os 5 .any (Rows.booksMaySpec.pre6 enc Try.prog Try.f5 Rows.booksMayRow.domain false) (Rows.booksMaySpec.post enc Try.prog Try.f5 false true false false) := by
  refine returnsInHanded_of_change (C := Try.checked) own started (by kernel_rfl) Try.func5
    (ChangeSpec.witness6 (enc := enc) (C := Try.checked) false ⟨#[], #[.slice none 0 0, .agg #[.int .i64 0, .int .i64 0], .agg #[.int .i64 0, .int .i64 0, .int .i64 0, .int .i64 0]], []⟩ 8 (by kernel_rfl) (by kernel_rfl) (by kernel_rfl) (by kernel_rfl)) ?_
  intro W base args ds gs before hval hW _ _
  exact contract H enc W base args ds gs before hval hW

theorem over : Rows.booksMayRow.holds Try.pinned (OpenSpec.ofChange Rows.booksMaySpec) :=
  OpenClaim.holds_of_wide 5 Try.f5 rfl rfl rfl rfl rfl rfl rfl ⟨rfl, rfl, rfl, rfl, rfl⟩ rfl rfl rfl rfl rfl (by kernel_rfl) Try.func5 (by kernel_rfl)
    (of_decide_eq_true (by kernel_rfl)) (by unfold Func.isWrapper; first | (rw [if_pos (by decide +kernel)]; kernel_rfl) | (rw [if_neg (by decide +kernel)]; exact ⟨rfl, rfl⟩))
    (fun os started H enc _ => lifted os started H enc)
end Go.Proofs.Ytgdcgilhaedbmac.booksMay
namespace Go.Proofs.Ytgdcgilhaedbmac
theorem booksMay_proved : Rows.BooksMaySaid := booksMay.over
end Go.Proofs.Ytgdcgilhaedbmac

