/- A book that may be: the contract of books.wrong; lists of books as they lie in memory. -/
import Derived.Test.YtgdcgilhaedbmacPol2
import Derived.Test.YtgdcgilhaedbmacMem2
import Derived.BigQuiet
import Derived.Deep.RegionHeld3
-- prune
namespace Go.Proofs.Ytgdcgilhaedbmac
open Go.ChangeShapes Go.WideShapes Go.ChangeAt Go.RowKit
set_option linter.unusedVariables false

/-- A book. -/
structure Bk where
  on : Bool
  k : Int
  l : Int
  v : Int
  b : Int
  n : Int
/-- A book's value. -/
def bkV (B : Bk) : Value := .agg #[.bool B.on, .int .i64 B.k, .int .i64 B.l, .int .i64 B.v, .int .i64 B.b, .int .i64 B.n]
/-- A book's cells. -/
def bkC (B : Bk) : List Value := [.bool B.on, .int .i64 B.k, .int .i64 B.l, .int .i64 B.v, .int .i64 B.b, .int .i64 B.n]
def nilBk : Bk := ⟨false, 0, 0, 0, 0, 0⟩
/-- A book that may be. -/
structure MayB (B : Bk) : Prop where
  n0 : 0 ≤ B.n
  n1 : B.n ≤ 1073741824
  y : B.on = true → MayP B.k B.l B.v B.b ∧ 1 ≤ B.n
  f : B.on = false → B.k = 0 ∧ B.l = 0 ∧ B.v = 0 ∧ B.b = 0
/-- A list of books reads as L. -/
def BksAt (w : World) (A : Option Addr) (len : Nat) (L : Nat → Bk) : Prop :=
  0 < len → ∃ b off, A = some ⟨b, off, none⟩ ∧ b < w.heap.size ∧ ∀ i, i < len → ∀ j u, (bkC (L i))[j]? = some u → w.cell? ⟨b, off + i * 6 + j, none⟩ = some u
theorem BksAt.below {w w' : World} {A : Option Addr} {len : Nat} {L : Nat → Bk} (h : BksAt w A len L) (hb : Below w.heap.size w w') : BksAt w' A len L := by
  intro h0
  obtain ⟨b, off, e, hl, hc⟩ := h h0
  exact ⟨b, off, e, Nat.lt_of_lt_of_le hl hb.size, fun i hi j u hu => (hb.cell (p := ⟨b, off + i * 6 + j, none⟩) hl).trans (hc i hi j u hu)⟩
theorem BksAt.nil (w : World) (A : Option Addr) (L : Nat → Bk) : BksAt w A 0 L := fun h => absurd h (by omega)
theorem BksAt.congr {w : World} {A : Option Addr} {len : Nat} {L M : Nat → Bk} (h : BksAt w A len L) (e : ∀ i, i < len → L i = M i) : BksAt w A len M := by
  intro h0
  obtain ⟨b, off, ea, hl, hc⟩ := h h0
  exact ⟨b, off, ea, hl, fun i hi => by rw [← e i hi]; exact hc i hi⟩
/-- The six cells of a book. -/
def Six (w : World) (b o : Nat) (B : Bk) : Prop :=
  w.cell? ⟨b, o, none⟩ = some (.bool B.on) ∧ w.cell? ⟨b, o + 1, none⟩ = some (.int .i64 B.k) ∧ w.cell? ⟨b, o + 2, none⟩ = some (.int .i64 B.l) ∧ w.cell? ⟨b, o + 3, none⟩ = some (.int .i64 B.v) ∧ w.cell? ⟨b, o + 4, none⟩ = some (.int .i64 B.b) ∧ w.cell? ⟨b, o + 5, none⟩ = some (.int .i64 B.n)
theorem six_of {w : World} {b o : Nat} {B : Bk} (h : ∀ j u, (bkC B)[j]? = some u → w.cell? ⟨b, o + j, none⟩ = some u) : Six w b o B :=
  ⟨h 0 _ rfl, h 1 _ rfl, h 2 _ rfl, h 3 _ rfl, h 4 _ rfl, h 5 _ rfl⟩
theorem Six.all {w : World} {b o : Nat} {B : Bk} (h : Six w b o B) (j : Nat) (u : Value) (hu : (bkC B)[j]? = some u) : w.cell? ⟨b, o + j, none⟩ = some u := by
  obtain ⟨h0, h1, h2, h3, h4, h5⟩ := h
  match j, hu with
  | 0, hu => injection hu with hu; subst hu; exact h0
  | 1, hu => injection hu with hu; subst hu; exact h1
  | 2, hu => injection hu with hu; subst hu; exact h2
  | 3, hu => injection hu with hu; subst hu; exact h3
  | 4, hu => injection hu with hu; subst hu; exact h4
  | 5, hu => injection hu with hu; subst hu; exact h5
  | j + 6, hu => simp [bkC] at hu
theorem made_bk (w : World) (k l v b n : Int) (on : Bool) : Below w.heap.size w (w.alloc (.cells #[.bool on, .int .i64 k, .int .i64 l, .int .i64 v, .int .i64 b, .int .i64 n] 43)) := (Below.refl _ _).alloc (Nat.le_refl _) _
/-- A book in a new block. -/
structure BB (w0 : World) (on : Bool) (k l v b n : Int) (w : World) : Prop where
  p : Has w w0.heap.size 43 [.bool on, .int .i64 k, .int .i64 l, .int .i64 v, .int .i64 b, .int .i64 n]
  be : Below w0.heap.size w0 w
theorem BB.made (w : World) (on : Bool) (k l v b n : Int) : BB w on k l v b n (w.alloc (.cells #[.bool on, .int .i64 k, .int .i64 l, .int .i64 v, .int .i64 b, .int .i64 n] 43)) := ⟨Has.made w 43 [.bool on, .int .i64 k, .int .i64 l, .int .i64 v, .int .i64 b, .int .i64 n], (Below.refl _ _).alloc (Nat.le_refl _) _⟩
theorem BB.step {w0 w w' : World} {on : Bool} {k l v b n : Int} (h : BB w0 on k l v b n w) (hb : Below w.heap.size w w') : BB w0 on k l v b n w' := ⟨h.p.below hb h.p.lt, h.be.trans (hb.mono h.be.size)⟩
theorem BB.six {w0 w : World} {on : Bool} {k l v b n : Int} (h : BB w0 on k l v b n w) : w.cell? ⟨w0.heap.size, 0, none⟩ = some (.bool on) ∧ w.cell? ⟨w0.heap.size, 1, none⟩ = some (.int .i64 k) ∧ w.cell? ⟨w0.heap.size, 2, none⟩ = some (.int .i64 l) ∧ w.cell? ⟨w0.heap.size, 3, none⟩ = some (.int .i64 v) ∧ w.cell? ⟨w0.heap.size, 4, none⟩ = some (.int .i64 b) ∧ w.cell? ⟨w0.heap.size, 5, none⟩ = some (.int .i64 n) :=
  ⟨h.p.cell 0, h.p.cell 1, h.p.cell 2, h.p.cell 3, h.p.cell 4, h.p.cell 5⟩

set_option maxRecDepth 100000 in
set_option maxHeartbeats 2000000 in
theorem wrong_n (on : Bool) (k l v b n : Int) (w : World) (h : ¬ (0 ≤ n ∧ n ≤ 1073741824)) : Calls Try.prog 26 #[.agg #[.bool on, .int .i64 k, .int .i64 l, .int .i64 v, .int .i64 b, .int .i64 n]] w fun e w' => e = .returned (.bool true) ∧ Below w.heap.size w w' := by
  have HB := Lib.hid (BB.made w on k l v b n)
  by_cases h1 : n < 0
  · have d : decide (n < 0) = true := by simp; omega
    clear h
    go_enter Try.func26, Try.ntmps26
    go_wp2_with fail
    go_ret
    exact ⟨rfl, HB.out.be⟩
  · have d : decide (n < 0) = false := by simp; omega
    have d2 : decide (1073741824 < n) = true := by simp; omega
    clear h
    go_enter Try.func26, Try.ntmps26
    go_wp2_with fail
    go_ret
    exact ⟨rfl, HB.out.be⟩
set_option maxRecDepth 100000 in
set_option maxHeartbeats 2000000 in
theorem wrong_on (r : Bool) (k l v b n : Int) (w : World) (h0 : 0 ≤ n) (h1 : n ≤ 1073741824) (hr : (MayP k l v b ∧ 1 ≤ n) ↔ r = false) : Calls Try.prog 26 #[.agg #[.bool true, .int .i64 k, .int .i64 l, .int .i64 v, .int .i64 b, .int .i64 n]] w fun e w' => e = .returned (.bool r) ∧ Below w.heap.size w w' := by
  have HB := Lib.hid (BB.made w true k l v b n)
  have d : decide (n < 0) = false := by simp; omega
  have d2 : decide (1073741824 < n) = false := by simp; omega
  by_cases h2 : n = 0
  · have d3 : (n == 0) = true := by simp [h2]
    obtain rfl : r = true := by
      cases r with
      | true => rfl
      | false => have := hr.2 rfl; omega
    clear hr h2
    go_enter Try.func26, Try.ntmps26
    go_wp2_with fail
    go_ret
    exact ⟨rfl, HB.out.be⟩
  · have d3 : (n == 0) = false := by simp [h2]
    by_cases hp : MayP k l v b
    · have CK := Lib.hid (fun u => Check_yes k l v b u hp)
      obtain rfl : r = false := hr.1 ⟨hp, by omega⟩
      clear hr h2 hp
      go_enter Try.func26, Try.ntmps26
      go_wp2_with fail
      refine (CK.out _).mono ?_; rintro e w1 ⟨rfl, hb⟩
      have H1 := Lib.hid (HB.out.step hb)
      clear hb
      go_wp2_with fail
      go_ret
      exact ⟨rfl, H1.out.be⟩
    · have CK := Lib.hid (fun u => Check_no k l v b u hp)
      obtain rfl : r = true := by
        cases r with
        | true => rfl
        | false => exact absurd (hr.2 rfl).1 hp
      clear hr h2 hp
      go_enter Try.func26, Try.ntmps26
      go_wp2_with fail
      refine (CK.out _).mono ?_; rintro e w1 ⟨rfl, hb⟩
      have H1 := Lib.hid (HB.out.step hb)
      clear hb
      go_wp2_with fail
      go_ret
      exact ⟨rfl, H1.out.be⟩
set_option maxRecDepth 100000 in
set_option maxHeartbeats 2000000 in
theorem wrong_off (r : Bool) (k l v b n : Int) (w : World) (h0 : 0 ≤ n) (h1 : n ≤ 1073741824) (hr : (k = 0 ∧ l = 0 ∧ v = 0 ∧ b = 0) ↔ r = false) : Calls Try.prog 26 #[.agg #[.bool false, .int .i64 k, .int .i64 l, .int .i64 v, .int .i64 b, .int .i64 n]] w fun e w' => e = .returned (.bool r) ∧ Below w.heap.size w w' := by
  have HB := Lib.hid (BB.made w false k l v b n)
  have d : decide (n < 0) = false := by simp; omega
  have d2 : decide (1073741824 < n) = false := by simp; omega
  by_cases hz : k = 0 ∧ l = 0 ∧ v = 0 ∧ b = 0
  · obtain rfl : r = false := hr.1 hz
    obtain ⟨rfl, rfl, rfl, rfl⟩ := hz
    clear hr
    go_enter Try.func26, Try.ntmps26
    go_wp2_with fail
    go_ret
    exact ⟨rfl, HB.out.be⟩
  · obtain rfl : r = true := by
      cases r with
      | true => rfl
      | false => exact absurd (hr.2 rfl) hz
    have HK := Lib.hid hz
    clear hr hz
    go_enter Try.func26, Try.ntmps26
    go_wp2_with fail
    all_goals subst_vars
    all_goals first | (exfalso; exact HK.out ⟨rfl, rfl, rfl, rfl⟩) | (go_ret; exact ⟨rfl, HB.out.be⟩)
theorem wrong_any (B : Bk) (r : Bool) (w : World) (hr : MayB B ↔ r = false) : Calls Try.prog 26 #[bkV B] w fun e w' => e = .returned (.bool r) ∧ Below w.heap.size w w' := by
  obtain ⟨on, k, l, v, b, n⟩ := B
  show Calls Try.prog 26 #[.agg #[.bool on, .int .i64 k, .int .i64 l, .int .i64 v, .int .i64 b, .int .i64 n]] w fun e w' => e = .returned (.bool r) ∧ Below w.heap.size w w'
  by_cases h : 0 ≤ n ∧ n ≤ 1073741824
  · cases on with
    | true => exact wrong_on r k l v b n w h.1 h.2 ⟨fun q => hr.1 ⟨h.1, h.2, fun _ => q, fun e => (by cases e)⟩, fun e => (hr.2 e).y rfl⟩
    | false => exact wrong_off r k l v b n w h.1 h.2 ⟨fun q => hr.1 ⟨h.1, h.2, fun e => (by cases e), fun _ => q⟩, fun e => (hr.2 e).f rfl⟩
  · obtain rfl : r = true := by
      cases r with
      | true => rfl
      | false => have := hr.2 rfl; exact absurd ⟨this.n0, this.n1⟩ h
    exact wrong_n on k l v b n w h
end Go.Proofs.Ytgdcgilhaedbmac
