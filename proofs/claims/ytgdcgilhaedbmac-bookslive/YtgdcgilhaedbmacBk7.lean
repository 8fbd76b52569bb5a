/- Set and Delete: the program's. -/
import Derived.Test.YtgdcgilhaedbmacBk6
-- prune
namespace Go.Proofs.Ytgdcgilhaedbmac
open Go.ChangeShapes Go.WideShapes Go.ChangeAt Go.RowKit
set_option linter.unusedVariables false

/-- What Set tells. -/
def ToldK (n : Nat) (L : Nat → Bk) (m c : Int) (w : World) (e : Ending) (w' : World) : Prop :=
  ∃ A cap, e = .returned (.tuple #[.slice A n cap, .int .i64 m, .int .i64 c]) ∧ BksAt w' A n L ∧ Below w.heap.size w w'
/-- What Delete tells. -/
def ToldD (n : Nat) (L : Nat → Bk) (c : Int) (w : World) (e : Ending) (w' : World) : Prop :=
  ∃ A cap, e = .returned (.tuple #[.slice A n cap, .int .i64 c]) ∧ BksAt w' A n L ∧ Below w.heap.size w w'
/-- The books with p in book id. -/
def setL (c : Int) (L : Nat → Bk) (id k l v b : Int) : Nat → Bk := if c = 0 then putB L id.toNat ⟨true, k, l, v, b, (L id.toNat).n + 1⟩ else L
def setM (c : Int) (L : Nat → Bk) (id : Int) : Int := if c = 0 then (L id.toNat).n + 1 else 0
/-- The books without a policy in book id. -/
def delL (c : Int) (L : Nat → Bk) (id : Int) : Nat → Bk := if c = 0 then putB L id.toNat ⟨false, 0, 0, 0, 0, (L id.toNat).n + 0⟩ else L
theorem kept_below {gb : Nat} {w0 w w' : World} (h : Below w0.heap.size w0 w) (hg : w0.heap.size ≤ gb) (hk : Kept (fun c => c = gb) w w') : Below w0.heap.size w0 w' := h.trans (hk.below h.size (fun c hc e => by omega))
set_option maxRecDepth 100000 in
set_option maxHeartbeats 4000000 in
theorem Set_any (A : Option Addr) (n cap : Nat) (L : Nat → Bk) (id k l v b c : Int) (w : World) (hh : BksAt w A n L) (hn : n ≤ 1000) (hc : SetC n L id k l v b c) :
    Calls Try.prog 19 #[.slice A n cap, .int .i64 id, .agg #[.int .i64 k, .int .i64 l, .int .i64 v, .int .i64 b]] w (ToldK n (setL c L id k l v b) (setM c L id) c w) := by
  have HP := Lib.hid (PB.made w k l v b)
  have HH := Lib.hid hh
  have GK := Lib.hid (fun u (hu : Below w.heap.size w u) => setCode_any A n cap L id k l v b c u (hh.below hu) hn hc)
  by_cases h0 : c = 0
  · subst h0
    have hcc : MayBs n L ∧ (0 ≤ id ∧ id < 8) ∧ (L id.toNat).n < 1073741824 := by
      rcases hc with ⟨h, _⟩ | ⟨h, _⟩ | ⟨_, h1, h2, _, h3⟩
      · omega
      · omega
      · exact ⟨h1, h2, h3⟩
    obtain ⟨i, rfl⟩ : ∃ i : Nat, id = (i : Int) := ⟨id.toNat, by omega⟩
    obtain rfl : n = 8 := hcc.1.1
    unfold setL setM
    rw [if_pos rfl, if_pos rfl, Int.toNat_natCast]
    rw [Int.toNat_natCast] at hcc
    obtain ⟨hm, ⟨_, hi⟩, hv⟩ := hcc
    have i8 : i < 8 := by omega
    have n0 := (hm.2 i i8).n0
    have CH := Lib.hid (fun u (hu : Below w.heap.size w u) => changer_any A cap i L u (hh.below hu) i8)
    have CA := Lib.hid (fun X gb rest u hX hB hne => change_any true k l v b 1 X gb i L rest u hX hB i8 hne n0 (by omega) (by decide) (by decide))
    clear hc hh hm
    go_enter Try.func19, Try.ntmps19
    go_wp2_with fail
    refine (GK.out _ HP.out.be).mono ?_; rintro e w1 ⟨rfl, hb⟩
    have H1 := Lib.hid (HP.out.step hb)
    clear hb GK HP
    go_wp2_with fail
    refine (CH.out _ H1.out.be).mono ?_; rintro e w2 ⟨gb, cp, X, rest, rfl, hg, hne, hgx, hB, hX, hb⟩
    have H2 := Lib.hid (H1.out.step hb)
    have CB := Lib.hid (CA.out X gb rest w2 hX hB hne)
    have hg2 : w.heap.size ≤ gb := Nat.le_trans H1.out.be.size hg
    clear hb CH CA hB hX hg hgx
    obtain ⟨p0, p1, p2, p3⟩ := H2.out.four
    go_wp2_with fail
    refine CB.out.mono ?_; rintro e w3 ⟨rfl, hB3, hk⟩
    have HBE := Lib.hid (kept_below H2.out.be hg2 hk)
    have HBK := Lib.hid hB3
    clear hB3 hk p0 p1 p2 p3 CB
    go_wp2_with fail
    go_ret3
    exact ⟨_, _, rfl, has_bks HBK.out, HBE.out⟩
  · have CL := Lib.hid (fun u (hu : Below w.heap.size w u) => Clone_any A n cap L u hn (hh.below hu))
    have d : (c != 0) = true := by simp [h0]
    unfold setL setM
    rw [if_neg h0, if_neg h0]
    clear hc hh h0
    go_enter Try.func19, Try.ntmps19
    go_wp2_with fail
    refine (GK.out _ HP.out.be).mono ?_; rintro e w1 ⟨rfl, hb⟩
    have H1 := Lib.hid (HP.out.step hb)
    clear hb GK HP
    go_wp2_with fail
    refine (CL.out _ H1.out.be).mono ?_; rintro e w2 ⟨vv, rfl, ho, hb⟩
    obtain ⟨A2, cp, rfl, _, _, hr⟩ := ho.at_
    have H2 := Lib.hid (H1.out.step hb)
    have HR := Lib.hid hr
    clear ho hr hb
    go_wp2_with fail
    go_ret3
    exact ⟨_, _, rfl, HR.out, H2.out.be⟩
set_option maxRecDepth 100000 in
set_option maxHeartbeats 4000000 in
theorem Delete_any (A : Option Addr) (n cap : Nat) (L : Nat → Bk) (id c : Int) (w : World) (hh : BksAt w A n L) (hn : n ≤ 1000) (hc : GetC n L id c) :
    Calls Try.prog 21 #[.slice A n cap, .int .i64 id] w (ToldD n (delL c L id) c w) := by
  have HH := Lib.hid hh
  have GK := Lib.hid (getCode_any A n cap L id c w hh hn hc)
  by_cases h0 : c = 0
  · subst h0
    have hcc : MayBs n L ∧ (0 ≤ id ∧ id < 8) := by
      rcases hc with ⟨h, _⟩ | ⟨h, _⟩ | ⟨_, h1, h2, _⟩
      · omega
      · omega
      · exact ⟨h1, h2⟩
    obtain ⟨i, rfl⟩ : ∃ i : Nat, id = (i : Int) := ⟨id.toNat, by omega⟩
    obtain rfl : n = 8 := hcc.1.1
    unfold delL
    rw [if_pos rfl, Int.toNat_natCast]
    obtain ⟨hm, ⟨_, hi⟩⟩ := hcc
    have i8 : i < 8 := by omega
    have n0 := (hm.2 i i8).n0
    have n1 := (hm.2 i i8).n1
    have CH := Lib.hid (fun u (hu : Below w.heap.size w u) => changer_any A cap i L u (hh.below hu) i8)
    have CA := Lib.hid (fun X gb rest u hX hB hne => change_any false 0 0 0 0 0 X gb i L rest u hX hB i8 hne n0 n1 (by decide) (by decide))
    clear hc hh hm
    go_enter Try.func21, Try.ntmps21
    go_wp2_with fail
    refine GK.out.mono ?_; rintro e w1 ⟨rfl, hb⟩
    have H1 := Lib.hid hb
    clear hb GK
    go_wp2_with fail
    refine (CH.out _ H1.out).mono ?_; rintro e w2 ⟨gb, cp, X, rest, rfl, hg, hne, hgx, hB, hX, hb⟩
    have H2 := Lib.hid (H1.out.trans (hb.mono H1.out.size))
    have CB := Lib.hid (CA.out X gb rest w2 hX hB hne)
    have hg2 : w.heap.size ≤ gb := Nat.le_trans H1.out.size hg
    clear hb CH CA hB hX hg hgx
    go_wp2_with fail
    refine CB.out.mono ?_; rintro e w3 ⟨rfl, hB3, hk⟩
    have HBE := Lib.hid (kept_below H2.out hg2 hk)
    have HBK := Lib.hid hB3
    clear hB3 hk CB
    go_wp2_with fail
    go_ret2
    exact ⟨_, _, rfl, has_bks HBK.out, HBE.out⟩
  · have CL := Lib.hid (fun u (hu : Below w.heap.size w u) => Clone_any A n cap L u hn (hh.below hu))
    have d : (c != 0) = true := by simp [h0]
    unfold delL
    rw [if_neg h0]
    clear hc hh h0
    go_enter Try.func21, Try.ntmps21
    go_wp2_with fail
    refine GK.out.mono ?_; rintro e w1 ⟨rfl, hb⟩
    have H1 := Lib.hid hb
    clear hb GK
    go_wp2_with fail
    refine (CL.out _ H1.out).mono ?_; rintro e w2 ⟨vv, rfl, ho, hb⟩
    obtain ⟨A2, cp, rfl, _, _, hr⟩ := ho.at_
    have H2 := Lib.hid (H1.out.trans (hb.mono H1.out.size))
    have HR := Lib.hid hr
    clear ho hr hb
    go_wp2_with fail
    go_ret2
    exact ⟨_, _, rfl, HR.out, H2.out⟩
end Go.Proofs.Ytgdcgilhaedbmac
