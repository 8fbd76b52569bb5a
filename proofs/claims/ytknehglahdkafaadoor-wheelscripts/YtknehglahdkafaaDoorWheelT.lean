/- The wheel's calls, told by its rows; two lists of numbers compared. -/
import Derived.Test.YtknehglahdkafaaDoorWheelS
namespace Go.Proofs.YtknehglahdkafaaDoor
open Go.ChangeShapes Go.WideShapes Go.ChangeAt Go.RowKit
set_option linter.unusedVariables false

/-- A slice reads as these numbers. -/
def IntsAt (w : World) (A : Option Addr) (cap : Nat) (xs : List Int) : Prop :=
  xs.length ≤ cap ∧ (0 < xs.length → ∃ g, A = some ⟨g, 0, none⟩ ∧ ∀ (i : Nat) z, xs[i]? = some z → w.cell? ⟨g, i, none⟩ = some (.int .i64 z))
theorem intsAt_of {w : World} {A : Option Addr} {cap : Nat} {xs : List Int} (h1 : xs.length ≤ cap) (h2 : ∀ (i : Nat) z, xs[i]? = some z → ∃ g, A = some ⟨g, 0, none⟩ ∧ w.cell? ⟨g, i, none⟩ = some (.int .i64 z)) : IntsAt w A cap xs := by
  refine ⟨h1, fun h0 => ?_⟩
  obtain ⟨g, rfl, _⟩ := h2 0 xs[0] (List.getElem?_eq_getElem h0)
  refine ⟨g, rfl, fun i z hz => ?_⟩
  obtain ⟨g', e, h⟩ := h2 i z hz
  cases e
  exact h
set_option maxRecDepth 100000 in
theorem Ints_yes (A1 A2 : Option Addr) (cap1 cap2 : Nat) (xs : List Int) (w : World) (h1 : IntsAt w A1 cap1 xs) (h2 : IntsAt w A2 cap2 xs) (hl : xs.length ≤ 1000) :
    Calls Tryd.prog 21 #[.slice A1 xs.length cap1, .slice A2 xs.length cap2] w fun e w' => e = .returned (.bool true) ∧ ∃ m, w' = w.drewN m := by
  have H1 := Lib.hid h1
  have H2 := Lib.hid h2
  have c1 := h1.1
  have c2 := h2.1
  clear h1 h2
  go_enter Tryd.func21, Tryd.ntmps21
  go_wp2
  go_loopw [5] (fun i wr => ∃ k : Nat, k ≤ xs.length ∧ i = .int .i64 (k : Int) ∧ ∃ m, wr = w.drewN m) (fun i _ => xs.length - (intOf i).toNat)
  case atStart => exact ⟨0, Nat.zero_le _, rfl, 0, rfl⟩
  case round =>
    obtain ⟨k, hk, rfl, m, rfl⟩ := hrel
    by_cases hlt : k < xs.length
    · obtain ⟨g1, rfl, f1⟩ := H1.out.2 (by omega)
      obtain ⟨g2, rfl, f2⟩ := H2.out.2 (by omega)
      have d1 := f1 k _ (List.getElem?_eq_getElem hlt)
      have d2 := f2 k _ (List.getElem?_eq_getElem hlt)
      clear f1 f2
      generalize xs[k] = z at *
      generalize xs.length = n at *
      go_wp2_with fail
      go_quiet (fail)
      go_wp2
      go_roundw
      case rel => exact ⟨k + 1, by omega, by go_num, m + nq, rfl⟩
      case measure => simp [intOf]; omega
    · go_wp2
      go_ret
      exact ⟨rfl, m, rfl⟩

theorem IntsAt.kept {F : Nat → Prop} {w w' : World} {A : Option Addr} {cap : Nat} {xs : List Int} (h : IntsAt w A cap xs) (hk : Kept F w w') (hA : ∀ a, A = some a → ¬ F a.block) : IntsAt w' A cap xs := by
  refine ⟨h.1, fun h0 => ?_⟩
  obtain ⟨g, rfl, hc⟩ := h.2 h0
  refine ⟨g, rfl, fun i z hz => ?_⟩
  have h1 := hc i z hz
  have hlt := block_lt_of_cell h1
  exact (World.cell?_of_block (w := w) (hk.block g hlt (hA _ rfl))).trans h1
theorem IntsAt.below {w w' : World} {A : Option Addr} {cap : Nat} {xs : List Int} (h : IntsAt w A cap xs) (hb : Below w.heap.size w w') : IntsAt w' A cap xs :=
  h.kept (F := fun _ => False) (Kept.of_below hb) (fun _ _ => id)
theorem Own1.ints {B : Nat} {w : World} {v : Value} {l : List Nat} (h : Own1 B 3 w v (idsV l)) : ∃ A cap, v = .slice A l.length cap ∧ IntsAt w A cap (l.map fun (x : Nat) => (x : Int)) := by
  obtain ⟨A, cap, e⟩ := h.sl
  rw [idsV_len] at e
  refine ⟨A, cap, e, ?_⟩
  by_cases h0 : l = []
  · subst h0; exact ⟨Nat.zero_le _, fun h => by simp at h⟩
  · obtain ⟨g, c, rest, e2, hg, hm, hh, hl⟩ := h.has (fun q => h0 (by simpa [idsV] using q))
    rw [idsV_len] at e2 hl
    rw [e] at e2
    injection e2 with q1 q2 q3
    subst q1
    subst q3
    refine ⟨by simp; omega, fun _ => ⟨g, rfl, fun i z hz => ?_⟩⟩
    rw [hh.cell i]
    rw [List.getElem?_map] at hz
    cases hx : l[i]? with
    | none => rw [hx] at hz; cases hz
    | some x =>
      rw [hx] at hz
      have hlt := (List.getElem?_eq_some_iff.1 hx).1
      rw [List.getElem?_append_left (by rw [idsV_len]; exact hlt), idsV, List.getElem?_map, hx]
      simp at hz
      rw [← hz]; rfl

/-- A wheel of these rows lies there. -/
def Wh (w : World) (bP bM : Nat) (R : Nat → List Nat) : Prop := ∃ s, IsWh w bP bM s ∧ Rep R s
section
variable {w w' : World} {bP bM : Nat} {R : Nat → List Nat}
theorem Wh.kept {F : Nat → Prop} (h : Wh w bP bM R) (hk : Kept F w w') (h1 : ¬ F bP) (h2 : ¬ F bM) : Wh w' bP bM R := by
  obtain ⟨s, a, b⟩ := h
  exact ⟨s, a.kept hk h1 h2, b⟩
theorem Wh.below (h : Wh w bP bM R) (hb : Below w.heap.size w w') : Wh w' bP bM R := h.kept (F := fun _ => False) (Kept.of_below hb) id id
theorem Wh.lt (h : Wh w bP bM R) : bP < w.heap.size ∧ bM < w.heap.size := by obtain ⟨s, a, b⟩ := h; exact ⟨a.hd.lt, a.mp.lt⟩
theorem row_le (R : Nat → List Nat) (i n : Nat) (h : i < n) : (R i).length ≤ tot R n := by
  induction n with
  | zero => omega
  | succ n ih =>
    rw [tot]
    by_cases e : i = n
    · subst e; omega
    · have := ih (by omega); omega
end
/-- A call tells v; the wheel's rows are R' then. -/
def WhT (bP bM : Nat) (R' : Nat → List Nat) (v : Value) (w : World) (e : Ending) (w' : World) : Prop := e = .returned v ∧ Wh w' bP bM R' ∧ Kept (two bP bM) w w'
theorem New_T (w : World) : Calls Tryd.prog 8 #[] w fun e w' => ∃ bP bM, e = .returned (.pointer (some ⟨bP, 0, none⟩)) ∧ Wh w' bP bM (fun _ => []) ∧ Below w.heap.size w w' ∧ w.heap.size ≤ bP ∧ w.heap.size ≤ bM :=
  (New_wh w).mono fun e w' ⟨bP, bM, h1, h2, h3, h4, h5⟩ => ⟨bP, bM, h1, ⟨_, h2, Rep.new⟩, h3, h4, h5⟩
section
variable (bP bM : Nat) (R : Nat → List Nat) (w : World) (h : Wh w bP bM R)
include h
theorem Mask_T : ∃ m : Nat, m < 18446744073709551616 ∧ (∀ i, i < 64 → m.testBit i = !(R i).isEmpty) ∧ Calls Tryd.prog 11 #[.pointer (some ⟨bP, 0, none⟩)] w fun e w' => e = .returned (.int .u64 (m : Int)) ∧ w = w' := by
  obtain ⟨s, a, b⟩ := h
  exact ⟨s.mask, a.ml, b.mb, Mask_any bP bM s w a⟩
theorem Len_T : Calls Tryd.prog 13 #[.pointer (some ⟨bP, 0, none⟩)] w fun e w' => e = .returned (.int .i64 ((tot R 64 : Nat) : Int)) ∧ w = w' := by
  obtain ⟨s, a, b⟩ := h
  rw [← b.n]
  exact Len_any bP bM s w a
theorem Next_T (k : Int) (ht : TabW w) (hk : I64 k) : ∃ m : Nat, m < 18446744073709551616 ∧ (∀ i, i < 64 → m.testBit i = !(R i).isEmpty) ∧ Calls Tryd.prog 18 #[.pointer (some ⟨bP, 0, none⟩), .int .i64 k] w fun e w' => e = .returned (.tuple #[.int .i64 ((nextN [m] k.toNat).1 : Nat), .bool (nextN [m] k.toNat).2]) ∧ Below w.heap.size w w' := by
  obtain ⟨s, a, b⟩ := h
  exact ⟨s.mask, a.ml, b.mb, Next_wh bP bM k s w a ht hk⟩
theorem Where_yes (i x : Nat) (hi : i < 64) (hx : x ∈ R i) : Calls Tryd.prog 20 #[.pointer (some ⟨bP, 0, none⟩), .int .i64 (x : Int)] w fun e w' => e = .returned (.tuple #[.int .i64 (i : Int), .bool true]) ∧ Below w.heap.size w w' := by
  obtain ⟨s, a, b⟩ := h
  obtain ⟨p, q, hp⟩ := b.some_of hi hx
  exact Where_any bP bM x i p q true s w a (by have := b.le i hi x hx; unfold I64; omega) (by rw [hp]; rfl) (by rw [hp]; rfl)
theorem Where_no (k : Int) (hk : I64 k) (hx : ∀ i, i < 64 → ∀ x : Nat, x ∈ R i → (x : Int) ≠ k) : Calls Tryd.prog 20 #[.pointer (some ⟨bP, 0, none⟩), .int .i64 k] w fun e w' => e = .returned (.tuple #[.int .i64 0, .bool false]) ∧ Below w.heap.size w w' := by
  obtain ⟨s, a, b⟩ := h
  have hp := b.no k hx
  exact Where_any bP bM k 0 0 0 false s w a hk (by rw [hp]; rfl) (by rw [hp]; rfl)
theorem Drop_T (x : Nat) (hx : I64 (x : Int)) (hn : tot R 64 ≤ 1000) (r : Bool) (hr : r = true ↔ ∃ i, i < 64 ∧ x ∈ R i) : Calls Tryd.prog 16 #[.pointer (some ⟨bP, 0, none⟩), .int .i64 (x : Int)] w (WhT bP bM (dropR R x) (.bool r) w) := by
  obtain ⟨s, a, b⟩ := h
  have e : (s.pl (x : Int)).isSome = r := by
    rcases hh : (s.pl (x : Int)).isSome with _ | _
    · cases r with
      | false => rfl
      | true => have := (b.had x).2 (hr.1 rfl); rw [hh] at this; cases this
    · exact (hr.2 ((b.had x).1 hh)).symm
  rw [← e]
  exact (Drop_any bP bM x s w a hx (b.ok a.le) (by rw [b.n]; omega)).mono fun e w' ⟨h1, h2, h3⟩ => ⟨h1, ⟨_, h2, b.drop x⟩, h3⟩
theorem Drop_neg (k : Int) (hk : I64 k) (hx : ∀ i, i < 64 → ∀ x : Nat, x ∈ R i → (x : Int) ≠ k) : Calls Tryd.prog 16 #[.pointer (some ⟨bP, 0, none⟩), .int .i64 k] w fun e w' => e = .returned (.bool false) ∧ Below w.heap.size w w' := by
  obtain ⟨s, a, b⟩ := h
  exact Drop_no bP bM k s w a hk (b.no k hx)
theorem Add_T (i x : Nat) (hi : i < 64) (hx : x ≤ 1048575) (hn : tot R 64 ≤ 1000) : Calls Tryd.prog 15 #[.pointer (some ⟨bP, 0, none⟩), .int .i64 (i : Int), .int .i64 (x : Int)] w (WhT bP bM (addR R i x) (.int .i64 0) w) := by
  obtain ⟨s, a, b⟩ := h
  exact (Add_yes bP bM i x s w a hi hx (b.ok a.le) (by rw [b.n]; exact hn) (b.add_en hi)).mono fun e w' ⟨h1, h2, h3⟩ => ⟨h1, ⟨_, h2, b.add hi hx⟩, h3⟩
theorem Add_no (p q : Int) (hh : ¬ (0 ≤ p ∧ p < 64 ∧ 0 ≤ q ∧ q ≤ 1048575)) : Calls Tryd.prog 15 #[.pointer (some ⟨bP, 0, none⟩), .int .i64 p, .int .i64 q] w fun e w' => e = .returned (.int .i64 1) ∧ w = w' := by
  obtain ⟨s, a, b⟩ := h
  exact Add_bad bP bM p q s w a hh
theorem Row_T (i : Nat) (hi : i < 64) (hn : tot R 64 ≤ 900) : Calls Tryd.prog 19 #[.pointer (some ⟨bP, 0, none⟩), .int .i64 (i : Int)] w (IdsTold (R i) w) := by
  obtain ⟨s, a, b⟩ := h
  exact Row_in bP bM i (R i) s w a hi (b.chain hi) (Nat.le_trans (row_le R i 64 hi) hn)
theorem Row_no (k : Int) (hk : ¬ (0 ≤ k ∧ k < 64)) : Calls Tryd.prog 19 #[.pointer (some ⟨bP, 0, none⟩), .int .i64 k] w (IdsTold [] w) := by
  obtain ⟨s, a, b⟩ := h
  exact Row_out bP bM k s w a hk
omit h in
theorem drops_ok (s : WS) (a : IsWh w bP bM s) (b : Rep R s) (hn : tot R 64 ≤ 900) (l : List Nat) : (s.drops l).Ok ∧ (s.drops l).n ≤ 100000 := by
  have h1 := b.drops l
  have hl : ∀ (l : List Nat) (s : WS), (s.drops l).en.length = s.en.length := by
    intro l
    induction l with
    | nil => intro s; rfl
    | cons x l ih =>
      intro s
      show ((s.drop x).drops l).en.length = _
      rw [ih]
      unfold WS.drop
      split
      · rfl
      · rw [join_en_len]; rfl
  refine ⟨h1.ok (by rw [hl, a.le]), ?_⟩
  rw [h1.n]
  have : tot (dropsR R l) 64 ≤ tot R 64 := by
    have g : ∀ n, tot (dropsR R l) n ≤ tot R n := by
      intro n
      induction n with
      | zero => exact Nat.le_refl _
      | succ n ih =>
        rw [tot, tot, dropsR_at]
        have := List.length_filter_le (fun y => decide (y ∉ l)) (R n)
        omega
    exact g 64
  omega
theorem Empty_T (i : Nat) (hi : i < 64) (hn : tot R 64 ≤ 900) : Calls Tryd.prog 17 #[.pointer (some ⟨bP, 0, none⟩), .int .i64 (i : Int)] w fun e w' => ∃ v, e = .returned v ∧ Own1 w.heap.size 3 w' v (idsV (R i)) ∧ Wh w' bP bM (upd R i []) ∧ Kept (two bP bM) w w' := by
  have hr := Row_T bP bM R w h i hi hn
  have h' := h
  obtain ⟨s, a, b⟩ := h
  refine (Empty_any bP bM i (R i) s w a hr (Nat.le_trans (row_le R i 64 hi) hn) (b.le i hi) (fun j _ => drops_ok bP bM R w s a b hn _)).mono ?_
  rintro e w' ⟨v, h1, h2, h3, h4⟩
  exact ⟨v, h1, h2, ⟨_, h3, b.emptied hi⟩, h4⟩
theorem Empty_no (k : Int) (hk : ¬ (0 ≤ k ∧ k < 64)) (hn : tot R 64 ≤ 900) : Calls Tryd.prog 17 #[.pointer (some ⟨bP, 0, none⟩), .int .i64 k] w fun e w' => ∃ v, e = .returned v ∧ Own1 w.heap.size 3 w' v (idsV []) ∧ Wh w' bP bM R ∧ Kept (two bP bM) w w' := by
  have hr := Row_no bP bM R w h k hk
  obtain ⟨s, a, b⟩ := h
  refine (Empty_any bP bM k [] s w a hr (by simp) (by simp) (fun j _ => ?_)).mono ?_
  · rw [List.take_nil]
    refine ⟨b.ok a.le, ?_⟩
    show s.n ≤ 100000
    rw [b.n]; omega
  · rintro e w' ⟨v, h1, h2, h3, h4⟩
    exact ⟨v, h1, h2, ⟨_, h3, b⟩, h4⟩
end
end Go.Proofs.YtknehglahdkafaaDoor
