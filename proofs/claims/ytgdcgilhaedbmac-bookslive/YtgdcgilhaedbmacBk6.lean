/- What changes a book, and the program's Set and Delete. -/
import Derived.Test.YtgdcgilhaedbmacBk5
import Derived.WalkMore
-- prune
namespace Go.Proofs.Ytgdcgilhaedbmac
open Go.ChangeShapes Go.WideShapes Go.ChangeAt Go.RowKit
set_option linter.unusedVariables false

theorem wrap_i {x : Int} (h1 : -9223372036854775808 ≤ x) (h2 : x < 9223372036854775808) : IntKind.i64.wrap x = x := by
  simp [IntKind.wrap, IntKind.signed, IntKind.bits]; omega
/-- A book's cells in the block. -/
theorem has_six {w : World} {gb n i : Nat} {L : Nat → Bk} {rest : List Value} (h : Has w gb 43 (bkv L n ++ rest)) (hi : i < n) : Six w gb (i * 6) (L i) := by
  have := (has_bks h).six hi
  simpa using this.2
/-- What the change tells. -/
def ChangedK (gb i : Nat) (L : Nat → Bk) (B : Bk) (rest : List Value) (w : World) (e : Ending) (w' : World) : Prop :=
  e = .returned (.int .i64 B.n) ∧ Has w' gb 43 (bkv (putB L i B) 8 ++ rest) ∧ Kept (fun c => c = gb) w w'
set_option maxRecDepth 100000 in
set_option maxHeartbeats 4000000 in
theorem change_any (on : Bool) (k l v b s : Int) (X gb i : Nat) (L : Nat → Bk) (rest : List Value) (w : World) (hX : Has w X 60 [.pointer (some ⟨gb, i * 6, none⟩)]) (hB : Has w gb 43 (bkv L 8 ++ rest)) (hi : i < 8) (hne : gb ≠ X) (n0 : 0 ≤ (L i).n) (n1 : (L i).n ≤ 1073741824) (s0 : 0 ≤ s) (s1 : s ≤ 1) :
    Calls Try.prog 33 #[.bool on, .agg #[.int .i64 k, .int .i64 l, .int .i64 v, .int .i64 b], .int .i64 s, .pointer (some ⟨X, 0, none⟩)] w (ChangedK gb i L ⟨on, k, l, v, b, (L i).n + s⟩ rest w) := by
  have x0 := hX.cell 0
  have hxl := hX.lt
  have hbl := hB.lt
  have hfr := hB.loose
  obtain ⟨q0, q1, q2, q3, q4, q5⟩ := has_six hB hi
  have E1 := Lib.hid (fun (u : World) (hu : Has u gb 43 (set6 (bkv L 8 ++ rest) (i * 6) ⟨on, k, l, v, b, (L i).n + s⟩)) => has_put (n := 8) hu hi)
  have FA := Lib.hid ((((((((hB.store (i * 6) (.bool on)).store (i * 6 + 1) (.int .i64 k)).store (i * 6 + 1 + 1) (.int .i64 l)).store (i * 6 + 1 + 2) (.int .i64 v)).store (i * 6 + 1 + 3) (.int .i64 b)).store (i * 6 + 5) (.int .i64 ((L i).n + s))).alloc (.cells #[.int .i64 k, .int .i64 l, .int .i64 v, .int .i64 b] 25)).drew)
  have KA := Lib.hid (((((((((Kept.refl (fun c => c = gb) w).setCell (p := ⟨gb, i * 6, none⟩) (.inl rfl) (.bool on)).setCell (p := ⟨gb, i * 6 + 1, none⟩) (.inl rfl) (.int .i64 k)).setCell (p := ⟨gb, i * 6 + 1 + 1, none⟩) (.inl rfl) (.int .i64 l)).setCell (p := ⟨gb, i * 6 + 1 + 2, none⟩) (.inl rfl) (.int .i64 v)).setCell (p := ⟨gb, i * 6 + 1 + 3, none⟩) (.inl rfl) (.int .i64 b)).setCell (p := ⟨gb, i * 6 + 5, none⟩) (.inl rfl) (.int .i64 ((L i).n + s))).alloc (.cells #[.int .i64 k, .int .i64 l, .int .i64 v, .int .i64 b] 25)).drew)
  have f0 := hfr (i * 6)
  have f1 := hfr (i * 6 + 1)
  have f2 := hfr (i * 6 + 2)
  have f3 := hfr (i * 6 + 3)
  have f4 := hfr (i * 6 + 4)
  have f5 := hfr (i * 6 + 5)
  have x1 : w.cell? ⟨X, 0, none⟩ = some (.pointer (some ⟨gb, i * 6, none⟩)) := x0
  have g1 : gb ≠ w.heap.size := by omega
  have g2 : X ≠ w.heap.size := by omega
  have g3 : X ≠ gb := Ne.symm hne
  clear hX hB hfr x0
  generalize (L i).n = m at *
  have e1 : IntKind.i64.wrap (m + s) = m + s := wrap_i (by omega) (by omega)
  generalize (L i).on = z0 at *
  generalize (L i).k = z1 at *
  generalize (L i).l = z2 at *
  generalize (L i).v = z3 at *
  generalize (L i).b = z4 at *
  go_enter Try.func33, Try.ntmps33
  go_wp2_with fail
  go_region
  all_goals go_wp2_with fail
  all_goals go_ret
  all_goals exact ⟨rfl, E1.out _ FA.out, KA.out⟩
/-- What changer tells. -/
def ChangerK (i : Nat) (L : Nat → Bk) (w : World) (e : Ending) (w' : World) : Prop :=
  ∃ (gb cap X : Nat) (rest : List Value), e = .returned (.tuple #[.slice (some ⟨gb, 0, none⟩) 8 cap, .func (.func 33) #[] #[.pointer (some ⟨X, 0, none⟩)]]) ∧ w.heap.size ≤ gb ∧ gb ≠ X ∧ w.heap.size ≤ X ∧ Has w' gb 43 (bkv L 8 ++ rest) ∧ Has w' X 60 [.pointer (some ⟨gb, i * 6, none⟩)] ∧ Below w.heap.size w w'
set_option maxRecDepth 100000 in
set_option maxHeartbeats 4000000 in
theorem changer_any (A : Option Addr) (c i : Nat) (L : Nat → Bk) (w : World) (hh : BksAt w A 8 L) (hi : i < 8) :
    Calls Try.prog 29 #[.slice A 8 c, .int .i64 (i : Int)] w (ChangerK i L w) := by
  have CL := Lib.hid (Clone_any A 8 c L w (by decide) hh)
  have B0 : (0 : Int) ≤ (i : Int) := by omega
  have B1 : (i : Int) < 8 := by omega
  have hmf : ∀ (fn : Fn) (first cap : Array Value) (w : World), (Instr.makeFunc fn first cap).run Try.prog w = .ok (.func fn first cap) w := fun _ _ _ _ => rfl
  clear hh
  go_enter Try.func29, Try.ntmps29
  go_wp2_with fail
  refine CL.out.mono ?_; rintro e w1 ⟨vv, rfl, ho, hb⟩
  obtain ⟨gb, cap, rest, rfl, hg, hh⟩ := ho.has (by decide)
  have HH := Lib.hid hh
  have HB := Lib.hid hb
  have hl := hh.lt
  have HM := Lib.hid (Has.made w1 60 [.pointer (some ⟨gb, i * 6, none⟩)])
  clear ho hh hb
  go_wp2_with fail
  go_ret2
  exact ⟨gb, cap, w1.heap.size, rest, rfl, hg, by omega, HB.out.size, HH.out.alloc _, HM.out, HB.out.alloc HB.out.size _⟩
end Go.Proofs.Ytgdcgilhaedbmac
