/- Set and Delete: the document's own. WRITTEN BY gen_bk8.py. -/
import Derived.Test.YtgdcgilhaedbmacBk7
-- prune
namespace Go.Proofs.Ytgdcgilhaedbmac
open Go.ChangeShapes Go.WideShapes Go.ChangeAt Go.RowKit
set_option linter.unusedVariables false

set_option maxRecDepth 100000 in
set_option maxHeartbeats 4000000 in
theorem rSet_yes (A : Option Addr) (cap i : Nat) (L : Nat → Bk) (k l v b : Int) (w : World) (hh : BksAt w A 8 L) (hm : MayBs 8 L) (i8 : i < 8) (hp : MayP k l v b) (hv : (L i).n < 1073741824) :
    Calls Try.prog 20 #[.slice A 8 cap, .int .i64 (i : Int), .agg #[.int .i64 k, .int .i64 l, .int .i64 v, .int .i64 b]] w (ToldK 8 (putB L i ⟨true, k, l, v, b, (L i).n + 1⟩) ((L i).n + 1) 0 w) := by
  have HP := Lib.hid (PB.made w k l v b)
  have HH := Lib.hid hh
  have MK := Lib.hid (fun u (hu : Below w.heap.size w u) => rMay_any true A 8 cap L u (hh.below hu) (by decide) ⟨fun _ => rfl, fun _ => hm⟩)
  have CK := Lib.hid (fun u => rCheck_yes k l v b u hp)
  have n0 := (hm.2 i i8).n0
  obtain ⟨b1, o1, rfl⟩ := HH.out.some (by omega)
  have HS := Lib.hid (HH.out.six i8)
  obtain ⟨i0, hi, hz0, hz1, hz2⟩ := info_parts infoK
  have HI := Lib.hid (And.intro hi (And.intro hz0 (And.intro hz1 hz2)))
  have B0 : (0 : Int) ≤ (i : Int) := by omega
  have B1 : (i : Int) < 8 := by omega
  have d0 : decide ((i : Int) < 0) = false := by simp
  have d8 : decide ((8 : Int) ≤ (i : Int)) = false := by simp; omega
  obtain ⟨m, hmm⟩ : ∃ m, (L i).n = m := ⟨_, rfl⟩
  have HMM := Lib.hid hmm
  rw [hmm] at hv n0 ⊢
  have dm : decide ((1073741824 : Int) ≤ m) = false := by simp; omega
  have e1 : IntKind.i64.wrap (m + 1) = m + 1 := wrap_i (by omega) (by omega)
  clear hh hm hp hmm hi hz0 hz1 hz2
  go_enter Try.func20, Try.ntmps20
  go_wp2_with fail
  refine (MK.out _ HP.out.be).mono ?_; rintro e w1 ⟨rfl, hb⟩
  have H1 := Lib.hid (HP.out.step hb)
  clear hb HP MK
  obtain ⟨p0, p1, p2, p3⟩ := H1.out.four
  go_wp2_with fail
  refine (CK.out _).mono ?_; rintro e wq ⟨rfl, hb⟩
  have H2 := Lib.hid (H1.out.step hb)
  clear hb p0 p1 p2 p3 H1
  have q5 := (HS.out.2.below HS.out.1 H2.out.be).2.2.2.2.2
  rw [HMM.out] at q5
  · skip
    have HWA := Lib.hid ((HH.out.below H2.out.be).below ((Below.refl _ _).alloc (Nat.le_refl _) (Obj.cells #[] 43)))
    have HO := Lib.hid (show (wq.alloc (Obj.cells #[] 43)).ownsRow wq.heap.size 43 6 (.slice (some ⟨wq.heap.size, 0, none⟩) 0 0) 0 [] from World.ownsRow_lit wq #[] 0 (Nat.le_refl _) (by unfold maxLen; omega) rfl)
    go_wp2_with (first | (at_builtin; refine wpList_append_own _ rfl _ _ 22 rfl wq.heap.size 43 i0 (.agg #[.bool false, .int .i64 0, .int .i64 0, .int .i64 0, .int .i64 0, .int .i64 0]) 6 48 Try.underlying22 HI.out.1 HI.out.2.1 HI.out.2.2.1 HI.out.2.2.2 rfl (by decide) _ 0 [] rfl HO.out ⟨b1, o1, none⟩ 8 cap (bkv L 8) rfl ?c1 ?c2 ?c3 ?c4 ?c5 ?c6 ?_))
    try (case c1 => exact bkv_len L 8)
    try (case c2 =>
      intro j u hj
      obtain ⟨hi', h⟩ := bkv_any L 8 j u hj
      obtain ⟨b, off, e, hb, hc⟩ := HWA.out (by omega)
      injection e with e
      injection e with e1 e2
      subst e1 e2
      have e2 : (⟨b1, o1, none⟩ : Addr).add j = ⟨b1, o1 + j, none⟩ := by unfold Addr.add; split <;> simp_all
      have := hc (j / 6) hi' (j % 6) u h
      rw [show o1 + j / 6 * 6 + j % 6 = o1 + j by omega] at this
      rw [e2]; exact this)
    try (case c3 => exact bkv_one L 8)
    try (case c4 => unfold maxLen; omega)
    try (case c5 => omega)
    try (case c6 => simp)
    intro v' wo hown hgrow hnil
    have hbel : Below wq.heap.size wq wo := ((Below.refl _ _).alloc (Nat.le_refl _) (Obj.cells #[] 43)).grown hgrow (by simp) (fun k hk => by simp [Value.ownBlock] at hk; omega)
    have hoo : OwnK wq.heap.size wo v' 8 L := by unfold OwnK; simpa using hown
    obtain ⟨gb, cp, rest, rfl, hg, hB⟩ := hoo.has (by decide)
    have H3 := Lib.hid (H2.out.step hbel)
    have q6 := (HS.out.2.below HS.out.1 H3.out.be).2.2.2.2.2
    rw [HMM.out] at q6
    obtain ⟨p0, p1, p2, p3⟩ := H3.out.four
    have hfr := hB.loose
    have f0 := hfr (i * 6)
    have f1 := hfr (i * 6 + 1)
    have f2 := hfr (i * 6 + 2)
    have f3 := hfr (i * 6 + 3)
    have f4 := hfr (i * 6 + 4)
    have f5 := hfr (i * 6 + 5)
    obtain ⟨z0, z1, z2, z3, z4, z5⟩ := has_six hB i8
    generalize (L i).on = y0 at z0
    generalize (L i).k = y1 at z1
    generalize (L i).l = y2 at z2
    generalize (L i).v = y3 at z3
    generalize (L i).b = y4 at z4
    generalize (L i).n = y5 at z5
    have hne : b1 ≠ gb := by have := HS.out.1; have := H2.out.be.size; omega
    have hne2 : gb ≠ w.heap.size := by have := H2.out.p.lt; omega
    have hge : w.heap.size ≤ gb := by have := H2.out.be.size; omega
    have E1 := Lib.hid (fun (u : World) (hu : Has u gb 43 (set6 (bkv L 8 ++ rest) (i * 6) ⟨true, k, l, v, b, m + 1⟩)) => has_put (n := 8) hu i8)
    have FA := Lib.hid ((((((hB.store (i * 6) (.bool true)).store (i * 6 + 1) (.int .i64 k)).store (i * 6 + 2) (.int .i64 l)).store (i * 6 + 3) (.int .i64 v)).store (i * 6 + 4) (.int .i64 b)).store (i * 6 + 5) (.int .i64 (m + 1)))
    have BE := Lib.hid ((((((H3.out.be.setCell (p := ⟨gb, i * 6, none⟩) hge (.bool true)).setCell (p := ⟨gb, i * 6 + 1, none⟩) hge (.int .i64 k)).setCell (p := ⟨gb, i * 6 + 2, none⟩) hge (.int .i64 l)).setCell (p := ⟨gb, i * 6 + 3, none⟩) hge (.int .i64 v)).setCell (p := ⟨gb, i * 6 + 4, none⟩) hge (.int .i64 b)).setCell (p := ⟨gb, i * 6 + 5, none⟩) hge (.int .i64 (m + 1)))
    clear hown hgrow hnil hbel hoo hg hB hfr q5 HO HWA HI HMM CK HS HH H2 H3 hge
    have FA2 := Lib.hid (has_bks (E1.out _ FA.out.drew.drew))
    have BE2 := Lib.hid BE.out.drew.drew
    clear FA E1 BE
    go_wp2_with fail
    go_region
    go_wp2_with fail
    go_region
    all_goals go_wp2_with fail
    all_goals go_ret3
    all_goals exact ⟨_, _, rfl, FA2.out, BE2.out⟩
set_option maxRecDepth 100000 in
set_option maxHeartbeats 4000000 in
theorem rSet_no (A : Option Addr) (n cap : Nat) (L : Nat → Bk) (id k l v b c : Int) (w : World) (hh : BksAt w A n L) (hn : n ≤ 1000) (hc : SetC n L id k l v b c) (h0 : c ≠ 0) : Calls Try.prog 20 #[.slice A n cap, .int .i64 id, .agg #[.int .i64 k, .int .i64 l, .int .i64 v, .int .i64 b]] w (ToldK n L 0 c w) := by
  have HP := Lib.hid (PB.made w k l v b)
  have HH := Lib.hid hh
  by_cases hm : MayBs n L
  · have MK := Lib.hid (fun u (hu : Below w.heap.size w u) => rMay_any true A n cap L u (hh.below hu) hn ⟨fun _ => rfl, fun _ => hm⟩)
    by_cases hi : 0 ≤ id ∧ id < 8
    · have d0 : decide (id < 0) = false := by simp; omega
      have d8 : decide ((8 : Int) ≤ id) = false := by simp; omega
      by_cases hp : MayP k l v b
      · have CK := Lib.hid (fun u => rCheck_yes k l v b u hp)
        obtain ⟨rfl, hv⟩ : c = 4 ∧ (L id.toNat).n = 1073741824 := by
          rcases hc with ⟨_, h⟩ | ⟨h, _, _, _, h2⟩ | ⟨h, _⟩
          · exact absurd ⟨hm, hi, hp⟩ h
          · exact ⟨h, h2⟩
          · exact absurd h h0
        obtain ⟨i, rfl⟩ : ∃ i : Nat, id = (i : Int) := ⟨id.toNat, by omega⟩
        obtain rfl : n = 8 := hm.1
        rw [Int.toNat_natCast] at hv
        obtain ⟨b1, o1, rfl⟩ := HH.out.some (by omega)
        have HS := Lib.hid (HH.out.six (show i < 8 by omega))
        have B0 : (0 : Int) ≤ (i : Int) := by omega
        have B1 : (i : Int) < 8 := by omega
        have HMM := Lib.hid hv
        clear hm hi hp hc hh hv h0
        go_enter Try.func20, Try.ntmps20
        go_wp2_with fail
        refine (MK.out _ HP.out.be).mono ?_; rintro e w1 ⟨rfl, hb⟩
        have H1 := Lib.hid (HP.out.step hb)
        clear hb
        obtain ⟨p0, p1, p2, p3⟩ := H1.out.four
        go_wp2_with fail
        refine (CK.out _).mono ?_; rintro e w2 ⟨rfl, hb⟩
        have H2 := Lib.hid (H1.out.step hb)
        clear hb
        have q5 := (HS.out.2.below HS.out.1 H2.out.be).2.2.2.2.2
        rw [HMM.out] at q5
        go_wp2_with fail
        go_ret3
        exact ⟨_, _, rfl, HH.out.below H2.out.be, H2.out.be⟩
      · have CK := Lib.hid (fun u => rCheck_no k l v b u hp)
        obtain rfl : c = 1 := by
          rcases hc with ⟨h, _⟩ | ⟨_, _, _, h, _⟩ | ⟨h, _⟩
          · exact h
          · exact absurd h hp
          · exact absurd h h0
        clear hm hi hp hc hh h0
        go_enter Try.func20, Try.ntmps20
        go_wp2_with fail
        refine (MK.out _ HP.out.be).mono ?_; rintro e w1 ⟨rfl, hb⟩
        have H1 := Lib.hid (HP.out.step hb)
        clear hb
        obtain ⟨p0, p1, p2, p3⟩ := H1.out.four
        go_wp2_with fail
        refine (CK.out _).mono ?_; rintro e w2 ⟨rfl, hb⟩
        have H2 := Lib.hid (H1.out.step hb)
        clear hb
        go_wp2_with fail
        go_ret3
        exact ⟨_, _, rfl, HH.out.below H2.out.be, H2.out.be⟩
    · obtain rfl : c = 1 := by
        rcases hc with ⟨h, _⟩ | ⟨_, _, h, _⟩ | ⟨h, _⟩
        · exact h
        · exact absurd h hi
        · exact absurd h h0
      clear hm hc hh h0
      by_cases hl : id < 0
      · have d0 : decide (id < 0) = true := by simp; omega
        clear hi
        go_enter Try.func20, Try.ntmps20
        go_wp2_with fail
        refine (MK.out _ HP.out.be).mono ?_; rintro e w1 ⟨rfl, hb⟩
        have H1 := Lib.hid (HP.out.step hb)
        clear hb
        go_wp2_with fail
        go_ret3
        exact ⟨_, _, rfl, HH.out.below H1.out.be, H1.out.be⟩
      · have d0 : decide (id < 0) = false := by simp; omega
        have d8 : decide ((8 : Int) ≤ id) = true := by simp; omega
        clear hi
        go_enter Try.func20, Try.ntmps20
        go_wp2_with fail
        refine (MK.out _ HP.out.be).mono ?_; rintro e w1 ⟨rfl, hb⟩
        have H1 := Lib.hid (HP.out.step hb)
        clear hb
        go_wp2_with fail
        go_ret3
        exact ⟨_, _, rfl, HH.out.below H1.out.be, H1.out.be⟩
  · have MK := Lib.hid (fun u (hu : Below w.heap.size w u) => rMay_any false A n cap L u (hh.below hu) hn ⟨fun q => absurd q hm, fun q => by cases q⟩)
    obtain rfl : c = 1 := by
      rcases hc with ⟨h, _⟩ | ⟨_, h, _⟩ | ⟨h, _⟩
      · exact h
      · exact absurd h hm
      · exact absurd h h0
    clear hm hc hh h0
    go_enter Try.func20, Try.ntmps20
    go_wp2_with fail
    refine (MK.out _ HP.out.be).mono ?_; rintro e w1 ⟨rfl, hb⟩
    have H1 := Lib.hid (HP.out.step hb)
    clear hb
    go_wp2_with fail
    go_ret3
    exact ⟨_, _, rfl, HH.out.below H1.out.be, H1.out.be⟩
theorem rSet_any (A : Option Addr) (n cap : Nat) (L : Nat → Bk) (id k l v b c : Int) (w : World) (hh : BksAt w A n L) (hn : n ≤ 1000) (hc : SetC n L id k l v b c) :
    Calls Try.prog 20 #[.slice A n cap, .int .i64 id, .agg #[.int .i64 k, .int .i64 l, .int .i64 v, .int .i64 b]] w (ToldK n (setL c L id k l v b) (setM c L id) c w) := by
  by_cases h0 : c = 0
  · subst h0
    obtain ⟨hm, ⟨i1, i2⟩, hp, hv⟩ : MayBs n L ∧ (0 ≤ id ∧ id < 8) ∧ MayP k l v b ∧ (L id.toNat).n < 1073741824 := by
      rcases hc with ⟨h, _⟩ | ⟨h, _⟩ | ⟨_, h1, h2, h3, h4⟩
      · omega
      · omega
      · exact ⟨h1, h2, h3, h4⟩
    obtain ⟨i, rfl⟩ : ∃ i : Nat, id = (i : Int) := ⟨id.toNat, by omega⟩
    obtain rfl : n = 8 := hm.1
    unfold setL setM
    rw [if_pos rfl, if_pos rfl, Int.toNat_natCast]
    rw [Int.toNat_natCast] at hv
    exact rSet_yes A cap i L k l v b w hh hm (by omega) hp hv
  · unfold setL setM
    rw [if_neg h0, if_neg h0]
    exact rSet_no A n cap L id k l v b c w hh hn hc h0
set_option maxRecDepth 100000 in
set_option maxHeartbeats 4000000 in
theorem rDelete_yes (A : Option Addr) (cap i : Nat) (L : Nat → Bk) (w : World) (hh : BksAt w A 8 L) (hm : MayBs 8 L) (i8 : i < 8) (hv : (L i).on = true) :
    Calls Try.prog 22 #[.slice A 8 cap, .int .i64 (i : Int)] w (ToldD 8 (putB L i ⟨false, 0, 0, 0, 0, (L i).n + 0⟩) 0 w) := by
  have HH := Lib.hid hh
  have MK := Lib.hid (rMay_any true A 8 cap L w hh (by decide) ⟨fun _ => rfl, fun _ => hm⟩)
  obtain ⟨b1, o1, rfl⟩ := HH.out.some (by omega)
  have HS := Lib.hid (HH.out.six i8)
  obtain ⟨i0, hi, hz0, hz1, hz2⟩ := info_parts infoK
  have HI := Lib.hid (And.intro hi (And.intro hz0 (And.intro hz1 hz2)))
  have B0 : (0 : Int) ≤ (i : Int) := by omega
  have B1 : (i : Int) < 8 := by omega
  have d0 : decide ((i : Int) < 0) = false := by simp
  have d8 : decide ((8 : Int) ≤ (i : Int)) = false := by simp; omega
  have HON := Lib.hid hv
  rw [Int.add_zero]
  obtain ⟨m, hmm⟩ : ∃ m, (L i).n = m := ⟨_, rfl⟩
  have HMM := Lib.hid hmm
  rw [hmm]
  clear hh hm hmm hi hz0 hz1 hz2 hv
  go_enter Try.func22, Try.ntmps22
  go_wp2_with fail
  refine MK.out.mono ?_; rintro e wq ⟨rfl, hb⟩
  have H2 := Lib.hid hb
  clear hb MK
  have q0 := (HS.out.2.below HS.out.1 H2.out).1
  rw [HON.out] at q0
  · skip
    have HWA := Lib.hid ((HH.out.below H2.out).below ((Below.refl _ _).alloc (Nat.le_refl _) (Obj.cells #[] 43)))
    have HO := Lib.hid (show (wq.alloc (Obj.cells #[] 43)).ownsRow wq.heap.size 43 6 (.slice (some ⟨wq.heap.size, 0, none⟩) 0 0) 0 [] from World.ownsRow_lit wq #[] 0 (Nat.le_refl _) (by unfold maxLen; omega) rfl)
    go_wp2_with (first | (at_builtin; refine wpList_append_own _ rfl _ _ 22 rfl wq.heap.size 43 i0 (.agg #[.bool false, .int .i64 0, .int .i64 0, .int .i64 0, .int .i64 0, .int .i64 0]) 6 48 Try.underlying22 HI.out.1 HI.out.2.1 HI.out.2.2.1 HI.out.2.2.2 rfl (by decide) _ 0 [] rfl HO.out ⟨b1, o1, none⟩ 8 cap (bkv L 8) rfl ?c1 ?c2 ?c3 ?c4 ?c5 ?c6 ?_))
    try (case c1 => exact bkv_len L 8)
    try (case c2 =>
      intro j u hj
      obtain ⟨hi', h⟩ := bkv_any L 8 j u hj
      obtain ⟨b, off, e, hb, hc⟩ := HWA.out (by omega)
      injection e with e
      injection e with e1 e2
      subst e1 e2
      have e2 : (⟨b1, o1, none⟩ : Addr).add j = ⟨b1, o1 + j, none⟩ := by unfold Addr.add; split <;> simp_all
      have := hc (j / 6) hi' (j % 6) u h
      rw [show o1 + j / 6 * 6 + j % 6 = o1 + j by omega] at this
      rw [e2]; exact this)
    try (case c3 => exact bkv_one L 8)
    try (case c4 => unfold maxLen; omega)
    try (case c5 => omega)
    try (case c6 => simp)
    intro v' wo hown hgrow hnil
    have hbel : Below wq.heap.size wq wo := ((Below.refl _ _).alloc (Nat.le_refl _) (Obj.cells #[] 43)).grown hgrow (by simp) (fun k hk => by simp [Value.ownBlock] at hk; omega)
    have hoo : OwnK wq.heap.size wo v' 8 L := by unfold OwnK; simpa using hown
    obtain ⟨gb, cp, rest, rfl, hg, hB⟩ := hoo.has (by decide)
    have H3 := Lib.hid (H2.out.trans (hbel.mono H2.out.size))
    have q6 := (HS.out.2.below HS.out.1 H3.out).2.2.2.2.2
    rw [HMM.out] at q6
    have hfr := hB.loose
    have f0 := hfr (i * 6)
    have f1 := hfr (i * 6 + 1)
    have f2 := hfr (i * 6 + 2)
    have f3 := hfr (i * 6 + 3)
    have f4 := hfr (i * 6 + 4)
    have f5 := hfr (i * 6 + 5)
    obtain ⟨z0, z1, z2, z3, z4, z5⟩ := has_six hB i8
    generalize (L i).on = y0 at z0
    generalize (L i).k = y1 at z1
    generalize (L i).l = y2 at z2
    generalize (L i).v = y3 at z3
    generalize (L i).b = y4 at z4
    generalize (L i).n = y5 at z5
    have hne : b1 ≠ gb := by have := HS.out.1; have := H2.out.size; omega
    have hge : w.heap.size ≤ gb := by have := H2.out.size; omega
    have E1 := Lib.hid (fun (u : World) (hu : Has u gb 43 (set6 (bkv L 8 ++ rest) (i * 6) ⟨false, 0, 0, 0, 0, m⟩)) => has_put (n := 8) hu i8)
    have FA := Lib.hid ((((((hB.store (i * 6) (.bool false)).store (i * 6 + 1) (.int .i64 0)).store (i * 6 + 2) (.int .i64 0)).store (i * 6 + 3) (.int .i64 0)).store (i * 6 + 4) (.int .i64 0)).store (i * 6 + 5) (.int .i64 m))
    have BE := Lib.hid ((((((H3.out.setCell (p := ⟨gb, i * 6, none⟩) hge (.bool false)).setCell (p := ⟨gb, i * 6 + 1, none⟩) hge (.int .i64 0)).setCell (p := ⟨gb, i * 6 + 2, none⟩) hge (.int .i64 0)).setCell (p := ⟨gb, i * 6 + 3, none⟩) hge (.int .i64 0)).setCell (p := ⟨gb, i * 6 + 4, none⟩) hge (.int .i64 0)).setCell (p := ⟨gb, i * 6 + 5, none⟩) hge (.int .i64 m))
    clear hown hgrow hnil hbel hoo hg hB hfr q0 HO HWA HI HMM HS HH H2 H3 hge
    have FA2 := Lib.hid (has_bks (E1.out _ FA.out))
    clear FA E1
    go_wp2_with fail
    go_ret2
    exact ⟨_, _, rfl, FA2.out, BE.out⟩
set_option maxRecDepth 100000 in
set_option maxHeartbeats 4000000 in
theorem rDelete_no (A : Option Addr) (n cap : Nat) (L : Nat → Bk) (id c : Int) (w : World) (hh : BksAt w A n L) (hn : n ≤ 1000) (hc : GetC n L id c) (h0 : c ≠ 0) : Calls Try.prog 22 #[.slice A n cap, .int .i64 id] w (ToldD n L c w) := by
  have HH := Lib.hid hh
  by_cases hm : MayBs n L
  · have MK := Lib.hid (rMay_any true A n cap L w hh hn ⟨fun _ => rfl, fun _ => hm⟩)
    by_cases hi : 0 ≤ id ∧ id < 8
    · have d0 : decide (id < 0) = false := by simp; omega
      have d8 : decide ((8 : Int) ≤ id) = false := by simp; omega
      obtain ⟨rfl, hv⟩ : c = 5 ∧ (L id.toNat).on = false := by
        rcases hc with ⟨_, h⟩ | ⟨h, _, _, h2⟩ | ⟨h, _⟩
        · exact absurd ⟨hm, hi⟩ h
        · exact ⟨h, h2⟩
        · exact absurd h h0
      obtain ⟨i, rfl⟩ : ∃ i : Nat, id = (i : Int) := ⟨id.toNat, by omega⟩
      obtain rfl : n = 8 := hm.1
      rw [Int.toNat_natCast] at hv
      obtain ⟨b1, o1, rfl⟩ := HH.out.some (by omega)
      have HS := Lib.hid (HH.out.six (show i < 8 by omega))
      have B0 : (0 : Int) ≤ (i : Int) := by omega
      have B1 : (i : Int) < 8 := by omega
      have HMM := Lib.hid hv
      clear hm hi hc hh hv h0
      go_enter Try.func22, Try.ntmps22
      go_wp2_with fail
      refine MK.out.mono ?_; rintro e w1 ⟨rfl, hb⟩
      have H1 := Lib.hid hb
      clear hb
      have q0 := (HS.out.2.below HS.out.1 H1.out).1
      rw [HMM.out] at q0
      go_wp2_with fail
      go_ret2
      exact ⟨_, _, rfl, HH.out.below H1.out, H1.out⟩
    · obtain rfl : c = 1 := by
        rcases hc with ⟨h, _⟩ | ⟨_, _, h, _⟩ | ⟨h, _⟩
        · exact h
        · exact absurd h hi
        · exact absurd h h0
      clear hm hc hh h0
      by_cases hl : id < 0
      · have d0 : decide (id < 0) = true := by simp; omega
        clear hi
        go_enter Try.func22, Try.ntmps22
        go_wp2_with fail
        refine MK.out.mono ?_; rintro e w1 ⟨rfl, hb⟩
        have H1 := Lib.hid hb
        clear hb
        go_wp2_with fail
        go_ret2
        exact ⟨_, _, rfl, HH.out.below H1.out, H1.out⟩
      · have d0 : decide (id < 0) = false := by simp; omega
        have d8 : decide ((8 : Int) ≤ id) = true := by simp; omega
        clear hi
        go_enter Try.func22, Try.ntmps22
        go_wp2_with fail
        refine MK.out.mono ?_; rintro e w1 ⟨rfl, hb⟩
        have H1 := Lib.hid hb
        clear hb
        go_wp2_with fail
        go_ret2
        exact ⟨_, _, rfl, HH.out.below H1.out, H1.out⟩
  · have MK := Lib.hid (rMay_any false A n cap L w hh hn ⟨fun q => absurd q hm, fun q => by cases q⟩)
    obtain rfl : c = 1 := by
      rcases hc with ⟨h, _⟩ | ⟨_, h, _⟩ | ⟨h, _⟩
      · exact h
      · exact absurd h hm
      · exact absurd h h0
    clear hm hc hh h0
    go_enter Try.func22, Try.ntmps22
    go_wp2_with fail
    refine MK.out.mono ?_; rintro e w1 ⟨rfl, hb⟩
    have H1 := Lib.hid hb
    clear hb
    go_wp2_with fail
    go_ret2
    exact ⟨_, _, rfl, HH.out.below H1.out, H1.out⟩
theorem rDelete_any (A : Option Addr) (n cap : Nat) (L : Nat → Bk) (id c : Int) (w : World) (hh : BksAt w A n L) (hn : n ≤ 1000) (hc : GetC n L id c) :
    Calls Try.prog 22 #[.slice A n cap, .int .i64 id] w (ToldD n (delL c L id) c w) := by
  by_cases h0 : c = 0
  · subst h0
    obtain ⟨hm, ⟨i1, i2⟩, hv⟩ : MayBs n L ∧ (0 ≤ id ∧ id < 8) ∧ (L id.toNat).on = true := by
      rcases hc with ⟨h, _⟩ | ⟨h, _⟩ | ⟨_, h1, h2, h3⟩
      · omega
      · omega
      · exact ⟨h1, h2, h3⟩
    obtain ⟨i, rfl⟩ : ∃ i : Nat, id = (i : Int) := ⟨id.toNat, by omega⟩
    obtain rfl : n = 8 := hm.1
    unfold delL
    rw [if_pos rfl, Int.toNat_natCast]
    rw [Int.toNat_natCast] at hv
    exact rDelete_yes A cap i L w hh hm (by omega) hv
  · unfold delL
    rw [if_neg h0]
    exact rDelete_no A n cap L id c w hh hn hc h0
end Go.Proofs.Ytgdcgilhaedbmac
