/- Lists of small numbers in memory: as they come in, as they are told, as they grow; two of them compared. -/
import Derived.Test.YtjkejlnelkckgaaOwn1
import Derived.Test.YtjkejlnelkckgaaImap
import Derived.Deep.Upon
import Derived.Deep.RegionLaw
import Derived.Deep.QuietTactic
import Derived.BigQuiet
namespace Go.Proofs.Ytjkejlnelkckgaa
open Go.ChangeShapes Go.WideShapes Go.ChangeAt Go.RowKit
set_option linter.unusedVariables false

theorem Try.infoInt : (Try.prog.info? 3).map (fun i => (i.zero, i.size, i.bytes)) = some (some (.int .i64 0), 1, 8) := by kernel_rfl
def idsV (l : List Nat) : List Value := l.map fun (x : Nat) => .int .i64 (x : Int)
theorem idsV_len (l : List Nat) : (idsV l).length = l.length := by simp [idsV]
/-- New memory that is these ids. -/
def IdsTold (l : List Nat) (w : World) (e : Ending) (w' : World) : Prop := ∃ v, e = .returned v ∧ Own1 w.heap.size 3 w' v (idsV l) ∧ Below w.heap.size w w'
theorem Own1.cellAt {B : Nat} {e : TypeId} {w : World} {v : Value} {xs : List Value} (h : Own1 B e w v xs) {j : Nat} {u : Value} (hu : xs[j]? = some u) : ∃ g cap, v = .slice (some ⟨g, 0, none⟩) xs.length cap ∧ B ≤ g ∧ xs.length ≤ cap ∧ w.cell? ⟨g, j, none⟩ = some u := by
  have h0 : xs ≠ [] := fun e => by rw [e] at hu; cases hu
  obtain ⟨g, cap, rest, rfl, hb, _, hh, hl⟩ := h.has h0
  refine ⟨g, cap, rfl, hb, by omega, ?_⟩
  rw [hh.cell j, List.getElem?_append_left (List.getElem?_eq_some_iff.1 hu).1, hu]
/-- A slice reads as these numbers. -/
def IntsAt (w : World) (A : Option Addr) (cap : Nat) (xs : List Int) : Prop :=
  xs.length ≤ cap ∧ (0 < xs.length → ∃ g, A = some ⟨g, 0, none⟩ ∧ ∀ (i : Nat) z, xs[i]? = some z → w.cell? ⟨g, i, none⟩ = some (.int .i64 z))
theorem intsAt_of {w : World} {A : Option Addr} {cap : Nat} {xs : List Int} (h1 : xs.length ≤ cap) (h2 : ∀ (i : Nat) z, xs[i]? = some z → ∃ g, A = some ⟨g, 0, none⟩ ∧ w.cell? ⟨g, i, none⟩ = some (.int .i64 z)) : IntsAt w A cap xs := by
  refine ⟨h1, fun h0 => ?_⟩
  obtain ⟨g, rfl, _⟩ := h2 0 xs[0] (List.getElem?_eq_getElem h0)
  refine ⟨g, rfl, fun i z hz => ?_⟩
  obtain ⟨g', e, h⟩ := h2 i z hz
  cases e
  exact h
set_option maxRecDepth 100000 in
theorem Ints_yes (A1 A2 : Option Addr) (cap1 cap2 : Nat) (xs : List Int) (w : World) (h1 : IntsAt w A1 cap1 xs) (h2 : IntsAt w A2 cap2 xs) (hl : xs.length ≤ 1000) :
    Calls Try.prog 19 #[.slice A1 xs.length cap1, .slice A2 xs.length cap2] w fun e w' => e = .returned (.bool true) ∧ ∃ m, w' = w.drewN m := by
  have H1 := Lib.hid h1
  have H2 := Lib.hid h2
  have c1 := h1.1
  have c2 := h2.1
  clear h1 h2
  go_enter Try.func19, Try.ntmps19
  go_wp2
  go_loopw [5] (fun i wr => ∃ k : Nat, k ≤ xs.length ∧ i = .int .i64 (k : Int) ∧ ∃ m, wr = w.drewN m) (fun i _ => xs.length - (intOf i).toNat)
  case atStart => exact ⟨0, Nat.zero_le _, rfl, 0, rfl⟩
  case round =>
    obtain ⟨k, hk, rfl, m, rfl⟩ := hrel
    by_cases hlt : k < xs.length
    · obtain ⟨g1, rfl, f1⟩ := H1.out.2 (by omega)
      obtain ⟨g2, rfl, f2⟩ := H2.out.2 (by omega)
      have d1 := f1 k _ (List.getElem?_eq_getElem hlt)
      have d2 := f2 k _ (List.getElem?_eq_getElem hlt)
      clear f1 f2
      generalize xs[k] = z at *
      generalize xs.length = n at *
      go_wp2_with fail
      go_quiet (fail)
      go_wp2
      go_roundw
      case rel => exact ⟨k + 1, by omega, by go_num, m + nq, rfl⟩
      case measure => simp [intOf]; omega
    · go_wp2
      go_ret
      exact ⟨rfl, m, rfl⟩

theorem IntsAt.kept {F : Nat → Prop} {w w' : World} {A : Option Addr} {cap : Nat} {xs : List Int} (h : IntsAt w A cap xs) (hk : Kept F w w') (hA : ∀ a, A = some a → ¬ F a.block) : IntsAt w' A cap xs := by
  refine ⟨h.1, fun h0 => ?_⟩
  obtain ⟨g, rfl, hc⟩ := h.2 h0
  refine ⟨g, rfl, fun i z hz => ?_⟩
  have h1 := hc i z hz
  have hlt := block_lt_of_cell h1
  exact (World.cell?_of_block (w := w) (hk.block g hlt (hA _ rfl))).trans h1
theorem IntsAt.below {w w' : World} {A : Option Addr} {cap : Nat} {xs : List Int} (h : IntsAt w A cap xs) (hb : Below w.heap.size w w') : IntsAt w' A cap xs :=
  h.kept (F := fun _ => False) (Kept.of_below hb) (fun _ _ => id)
theorem Own1.ints {B : Nat} {w : World} {v : Value} {l : List Nat} (h : Own1 B 3 w v (idsV l)) : ∃ A cap, v = .slice A l.length cap ∧ IntsAt w A cap (l.map fun (x : Nat) => (x : Int)) := by
  obtain ⟨A, cap, e⟩ := h.sl
  rw [idsV_len] at e
  refine ⟨A, cap, e, ?_⟩
  by_cases h0 : l = []
  · subst h0; exact ⟨Nat.zero_le _, fun h => by simp at h⟩
  · obtain ⟨g, c, rest, e2, hg, hm, hh, hl⟩ := h.has (fun q => h0 (by simpa [idsV] using q))
    rw [idsV_len] at e2 hl
    rw [e] at e2
    injection e2 with q1 q2 q3
    subst q1
    subst q3
    refine ⟨by simp; omega, fun _ => ⟨g, rfl, fun i z hz => ?_⟩⟩
    rw [hh.cell i]
    rw [List.getElem?_map] at hz
    cases hx : l[i]? with
    | none => rw [hx] at hz; cases hz
    | some x =>
      rw [hx] at hz
      have hlt := (List.getElem?_eq_some_iff.1 hx).1
      rw [List.getElem?_append_left (by rw [idsV_len]; exact hlt), idsV, List.getElem?_map, hx]
      simp at hz
      rw [← hz]; rfl

/-- A slice reads as these small numbers. -/
def NatsAt (w : World) (A : Option Addr) (xs : List Nat) : Prop :=
  0 < xs.length → ∃ b off, A = some ⟨b, off, none⟩ ∧ b < w.heap.size ∧ ∀ (j x : Nat), xs[j]? = some x → w.cell? ⟨b, off + j, none⟩ = some (.int .i64 (x : Int))
theorem idsV_app (xs ys : List Nat) : idsV (xs ++ ys) = idsV xs ++ idsV ys := by simp [idsV]
theorem idsV_one (xs : List Nat) : ∀ u ∈ idsV xs, u.oneCell' = true := fun u hu => by obtain ⟨n, _, rfl⟩ := List.mem_map.1 hu; rfl
/-- 'append(l, x)' of a row of one's own, which may be empty, not nil: as a step of the walk. -/
theorem wpList_append_row1 {B : Nat} (w : World) (H : Nat) (hH : w.heap.size = H) {ops : Array Oper} {rest : List Oper} {o : Oper} {a : Act} {Q : Exit → Act → World → Prop} (hgd : o.guard = none) (s x : Operand)
    (ho : o.op = .call { callee := .builtin .append, args := #[s, x], argTypes := #[26, 26] })
    (v u : Value) (xs : List Value) (n : Nat) (hn : xs.length = n) (hu : u.oneCell' = true) (hs : a.eval s = v) (hx : a.eval x = .slice (some ⟨H, 0, none⟩) 1 1) (hO : w.ownsRow B 3 1 v n xs) (hB : B ≤ H) (hlen : n ≤ 1000)
    (h : ∀ g cap w', Own1 B 3 w' (.slice (some ⟨g, 0, none⟩) (n + 1) cap) (xs ++ [u]) → Kept (fun b => v.ownBlock = some b) w w' → (v.ownBlock = some g ∨ H ≤ g) → g < w'.heap.size → wpList Try.prog ops Q rest (a.put o.dst (.slice (some ⟨g, 0, none⟩) (n + 1) cap)) w') :
    wpList Try.prog ops Q (o :: rest) a (w.alloc (.cells #[u] 3)) := by
  subst hn
  subst hH
  obtain ⟨i0, hi, hz0, hz1, hz2⟩ := info_parts Try.infoInt
  refine wpList_append_lies _ hgd s x 26 ho B 3 i0 (.int .i64 0) 1 8 Try.underlying26 hi hz0 hz1 hz2 rfl (by decide) v xs.length xs hs (hO.alloc _) ⟨w.heap.size, 0, none⟩ 1 1 [u] hx rfl (cell_one_new _ _ _) (by intro u' hu'; rw [List.mem_singleton.1 hu']; exact hu) (by decide) (by unfold maxLen; omega) (by omega) (by simp; omega) (w.heap.size + 1) (by simp) ?_
  intro g cap w' hown hgrow hat hlt
  refine h g cap w' ⟨by simpa using hown, by simp⟩ ?_ (hat.imp id (fun e => by omega)) hlt
  exact ((Kept.refl (fun b => v.ownBlock = some b) w).alloc (.cells #[u] 3)).grown hgrow (fun g hg => .inl hg)
theorem NatsAt.of_ints {w : World} {A : Option Addr} {cap : Nat} {l : List Nat} (h : IntsAt w A cap (l.map fun (x : Nat) => (x : Int))) : NatsAt w A l := fun h0 => by
  obtain ⟨g, rfl, hc⟩ := h.2 (by rw [List.length_map]; exact h0)
  refine ⟨g, 0, rfl, ?_, fun j x hx => ?_⟩
  · exact block_lt_of_cell (hc 0 _ (by rw [List.getElem?_map, List.getElem?_eq_getElem h0]; rfl))
  · rw [Nat.zero_add]; exact hc j x (by rw [List.getElem?_map, hx]; rfl)
theorem ints_of_owns {w : World} {B g n cap : Nat} {l : List Nat} (h : w.ownsRow B 3 1 (.slice (some ⟨g, 0, none⟩) n cap) n (idsV l)) (hn : l.length = n) : IntsAt w (some ⟨g, 0, none⟩) cap (l.map fun (x : Nat) => (x : Int)) := by
  obtain ⟨rest, hh, _, hl⟩ := has_of_owns h
  refine ⟨by rw [List.length_map]; omega, fun _ => ⟨g, rfl, fun i z hz => ?_⟩⟩
  rw [List.getElem?_map] at hz
  cases hx : l[i]? with
  | none => rw [hx] at hz; cases hz
  | some x =>
    rw [hx] at hz
    have hlt := (List.getElem?_eq_some_iff.1 hx).1
    rw [hh.cell i, List.getElem?_append_left (by rw [idsV_len]; exact hlt), idsV, List.getElem?_map, hx]
    simp at hz
    rw [← hz]; rfl
/-- A list without an id. -/
def flt (l : List Nat) (x : Nat) : List Nat := l.filter fun y => decide (y ≠ x)
theorem flt_yes {l : List Nat} {q x y : Nat} (h : l[q]? = some y) (hy : y ≠ x) : flt (l.take (q + 1)) x = flt (l.take q) x ++ [y] := by
  unfold flt
  rw [List.take_add_one, h, Option.toList_some, List.filter_append]
  simp [hy]
theorem flt_no {l : List Nat} {q x : Nat} (h : l[q]? = some x) : flt (l.take (q + 1)) x = flt (l.take q) x := by
  unfold flt
  rw [List.take_add_one, h, Option.toList_some, List.filter_append]
  simp
theorem flt_len (l : List Nat) (q x : Nat) : (flt (l.take q) x).length ≤ q := Nat.le_trans (List.length_filter_le _ _) (List.length_take_le _ _)
theorem own_eq {g n c b : Nat} (h : (Value.slice (some ⟨g, 0, none⟩) n c).ownBlock = some b) : b = g := by simpa [Value.ownBlock] using h.symm
/-- 'append(s, x)', x laid in a block of its own. -/
theorem step_row1 (u : World) (B g m cap hb : Nat) {ops : Array Oper} {o : Oper} {a : Act} {K : Act → World → Prop} {Q : Exit → Act → World → Prop} {E : Prop} (hgd : o.guard = none) (s x : Operand)
    (ho : o.op = .call { callee := .builtin .append, args := #[s, x], argTypes := #[26, 26] }) (l : List Nat) (y : Nat)
    (hs : a.eval s = .slice (some ⟨g, 0, none⟩) m cap) (hx : a.eval x = .slice (some ⟨hb, 0, none⟩) 1 1) (hO : u.ownsRow B 3 1 (.slice (some ⟨g, 0, none⟩) m cap) m (idsV l)) (hc : u.cell? ⟨hb, 0, none⟩ = some (.int .i64 (y : Int))) (hm : m ≤ 1000) (hB : B ≤ u.heap.size)
    (h : ∀ g' cap' w', w'.ownsRow B 3 1 (.slice (some ⟨g', 0, none⟩) (m + 1) cap') (m + 1) (idsV (l ++ [y])) → Kept (fun b => b = g) u w' → (g' = g ∨ u.heap.size ≤ g') → g' < w'.heap.size → K (a.put o.dst (.slice (some ⟨g', 0, none⟩) (m + 1) cap')) w') :
    if Region.wanted o (yielded ops a.tmps) = true then Oper.wp Try.prog o a u K Q else E := by
  obtain ⟨i0, hi, hz0, hz1, hz2⟩ := info_parts Try.infoInt
  refine step_append_lies _ hgd s x 26 ho B 3 i0 (.int .i64 0) 1 8 Try.underlying26 hi hz0 hz1 hz2 rfl (by decide) _ m (idsV l) hs hO ⟨hb, 0, none⟩ 1 1 [.int .i64 (y : Int)] hx rfl ?_ (by intro v hv; rw [List.mem_singleton.1 hv]; rfl) (by decide) (by unfold maxLen; omega) (by omega) hB _ rfl ?_
  · intro j v hv
    have hj : j = 0 := by
      have := (List.getElem?_eq_some_iff.1 hv).1
      simp at this
      exact this
    subst hj
    simp at hv
    rw [show (⟨hb, 0, none⟩ : Addr).add 0 = ⟨hb, 0, none⟩ by unfold Addr.add; split <;> simp_all, hc, hv]
  · intro g' cap' w' hown hgrow hor hlt
    have hrow : ∀ z, Value.ownBlock (.slice (some ⟨g, 0, none⟩) m cap) = some z → z = g := fun z hz => by simpa [Value.ownBlock] using hz.symm
    have e : idsV (l ++ [y]) = idsV l ++ [.int .i64 (y : Int)] := by simp [idsV]
    exact h g' cap' w' (by rw [e]; exact hown) ((Kept.refl (fun b => b = g) u).grown hgrow (fun z hz => .inl (hrow z hz))) (hor.imp (hrow g') (fun e => by omega)) hlt
/-- 'append(s, x...)', s a row of one's own that may be empty, at a step of a region that draws. -/
theorem step_spreadN (u : World) (B g0 n0 c0 : Nat) (xs0 : List Nat) (hn0 : xs0.length = n0) {ops : Array Oper} {o : Oper} {a : Act} {K : Act → World → Prop} {Q : Exit → Act → World → Prop} {E : Prop} (hgd : o.guard = none) (s x : Operand)
    (ho : o.op = .call { callee := .builtin .append, args := #[s, x], argTypes := #[26, 26] }) (A : Option Addr) (m c : Nat) (l : List Nat) (hl : l.length = m)
    (hs : a.eval s = .slice (some ⟨g0, 0, none⟩) n0 c0) (hx : a.eval x = .slice A m c) (hO : u.ownsRow B 3 1 (.slice (some ⟨g0, 0, none⟩) n0 c0) n0 (idsV xs0)) (hI : NatsAt u A l) (hm : n0 + m ≤ 1000) (hB : B ≤ u.heap.size)
    (h : ∀ g cap w', w'.ownsRow B 3 1 (.slice (some ⟨g, 0, none⟩) (n0 + m) cap) (n0 + m) (idsV (xs0 ++ l)) → Kept (fun b => b = g0) u w' → (g = g0 ∨ u.heap.size ≤ g) → K (a.put o.dst (.slice (some ⟨g, 0, none⟩) (n0 + m) cap)) w') :
    if Region.wanted o (yielded ops a.tmps) = true then Oper.wp Try.prog o a u K Q else E := by
  have hwt : Region.wanted o (yielded ops a.tmps) = true := by simp [Region.wanted, hgd]
  rw [if_pos hwt]
  obtain ⟨i0, hi, hz0, hz1, hz2⟩ := info_parts Try.infoInt
  have hc0 : n0 ≤ c0 := by obtain ⟨_, _, _, q⟩ := has_of_owns hO; omega
  by_cases h0 : 0 < m
  · obtain ⟨b, off, rfl, hb, hcell⟩ := hI (by omega)
    refine wp_append_lies _ s x 26 ho B 3 i0 (.int .i64 0) 1 8 Try.underlying26 hi hz0 hz1 hz2 rfl (by decide) _ n0 (idsV xs0) hs hO ⟨b, off, none⟩ m c (idsV l) hx (by rw [idsV_len]; omega) ?_ (idsV_one l) h0 (by unfold maxLen; omega) (by omega) hB _ rfl ?_
    · intro j v hv
      rw [show (⟨b, off, none⟩ : Addr).add j = ⟨b, off + j, none⟩ by unfold Addr.add; split <;> simp_all]
      rw [idsV, List.getElem?_map] at hv
      cases hx2 : l[j]? with
      | none => rw [hx2] at hv; cases hv
      | some y =>
        rw [hx2] at hv
        rw [hcell j y hx2, ← hv]
        rfl
    · intro g cap w' hown hgrow hor hlt
      have hrow : ∀ g, Value.ownBlock (.slice (some ⟨g0, 0, none⟩) n0 c0) = some g → g = g0 := fun g hg => by simpa [Value.ownBlock] using hg.symm
      exact h g cap w' (by rw [idsV_app]; exact hown) ((Kept.refl (fun b => b = g0) u).grown hgrow (fun g hg => .inl (hrow g hg))) (hor.imp (hrow g) (fun e => by omega))
  · obtain rfl : m = 0 := by omega
    obtain rfl : l = [] := List.length_eq_zero_iff.1 hl
    have hsrc : Src Try.prog i0.size 26 (.slice A 0 c) 0 [] u := by
      cases A with
      | none => exact Src.ofNil _ Try.underlying26 c
      | some ad => exact Src.ofSlice _ Try.underlying26 ad 0 c [] (by simp) (fun j u hu => by simp at hu) (fun u hu => by cases hu)
    have hr := run_append_nothing (P := Try.prog) u 26 26 o.type 3 i0 Try.underlying26 hi (some ⟨g0, 0, none⟩) n0 c0 hc0 _ hsrc
    unfold Oper.wp execOp
    simp only [ho, resolve, invoke, builtin, Sem.run_bind, Sem.run_pure, Result.andThen_ok, List.map_toArray, List.map_cons, List.map_nil, hs, hx, hr]
    exact h g0 c0 u (by rw [List.append_nil]; exact hO) (Kept.refl _ _) (.inl rfl)
end Go.Proofs.Ytjkejlnelkckgaa
