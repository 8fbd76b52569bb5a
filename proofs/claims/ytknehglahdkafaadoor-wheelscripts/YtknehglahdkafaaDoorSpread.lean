/- A list of ids laid anew. -/
import Derived.Test.YtknehglahdkafaaDoorWheelT
import Derived.Deep.Upon
import Derived.Deep.RegionLaw
namespace Go.Proofs.YtknehglahdkafaaDoor
open Go.ChangeShapes Go.WideShapes Go.ChangeAt Go.RowKit
set_option linter.unusedVariables false

/-- A slice reads as these small numbers. -/
def NatsAt (w : World) (A : Option Addr) (xs : List Nat) : Prop :=
  0 < xs.length → ∃ b off, A = some ⟨b, off, none⟩ ∧ b < w.heap.size ∧ ∀ (j x : Nat), xs[j]? = some x → w.cell? ⟨b, off + j, none⟩ = some (.int .i64 (x : Int))
theorem idsV_app (xs ys : List Nat) : idsV (xs ++ ys) = idsV xs ++ idsV ys := by simp [idsV]
theorem idsV_one (xs : List Nat) : ∀ u ∈ idsV xs, u.oneCell' = true := fun u hu => by obtain ⟨n, _, rfl⟩ := List.mem_map.1 hu; rfl
/-- 'append([]int{..}, x...)' at a step of a region that draws. -/
theorem step_append_ints (w : World) (xs0 : List Nat) {ops : Array Oper} {o : Oper} {a : Act} {K : Act → World → Prop} {Q : Exit → Act → World → Prop} {E : Prop} (hgd : o.guard = none) (s x : Operand)
    (ho : o.op = .call { callee := .builtin .append, args := #[s, x], argTypes := #[26, 26] }) (A : Option Addr) (m c : Nat) (xs : List Nat) (n0 : Nat) (hn0 : xs0.length = n0)
    (hs : a.eval s = .slice (some ⟨w.heap.size, 0, none⟩) n0 n0) (hx : a.eval x = .slice A m c) (hm : xs.length = m) (hw : NatsAt w A xs) (hk : n0 + m ≤ 1000)
    (h : ∀ g cap w' rest, w.heap.size ≤ g → cap ≤ maxLen → Has w' g 3 (idsV (xs0 ++ xs) ++ rest) → n0 + m + rest.length = cap → Below w.heap.size w w' → K (a.put o.dst (.slice (some ⟨g, 0, none⟩) (n0 + m) cap)) w') :
    if Region.wanted o (yielded ops a.tmps) = true then Oper.wp Tryd.prog o a (w.alloc (.cells (idsV xs0).toArray 3)) K Q else E := by
  have hwt : Region.wanted o (yielded ops a.tmps) = true := by simp [Region.wanted, hgd]
  rw [if_pos hwt]
  obtain ⟨i0, hi, hz0, hz1, hz2⟩ := info_parts Tryd.infoInt
  have hb0 : Below w.heap.size w (w.alloc (.cells (idsV xs0).toArray 3)) := (Below.refl _ _).alloc (Nat.le_refl _) _
  have hmade : Has (w.alloc (.cells (idsV xs0).toArray 3)) w.heap.size 3 (idsV xs0) := Has.made w 3 (idsV xs0)
  have hown0 : (w.alloc (.cells (idsV xs0).toArray 3)).ownsRow w.heap.size 3 1 (.slice (some ⟨w.heap.size, 0, none⟩) n0 n0) n0 (idsV xs0) :=
    Has.owns (rest := []) (by rw [List.append_nil]; exact hmade) (by rw [idsV_len]; exact hn0) (show n0 + 0 = n0 from rfl) (by unfold maxLen; omega) (Nat.le_refl _)
  by_cases h0 : 0 < m
  · obtain ⟨b, off, rfl, hb, hcell⟩ := hw (by omega)
    refine wp_append_lies _ s x 26 ho w.heap.size 3 i0 (.int .i64 0) 1 8 Tryd.underlying26 hi hz0 hz1 hz2 rfl (by decide) _ n0 (idsV xs0) hs hown0 ⟨b, off, none⟩ m c (idsV xs) hx (by rw [idsV_len]; omega) ?_ (idsV_one xs) h0 (by unfold maxLen; omega) (by omega) (by simp) _ rfl ?_
    · intro j u hu
      rw [show (⟨b, off, none⟩ : Addr).add j = ⟨b, off + j, none⟩ by unfold Addr.add; split <;> simp_all, hb0.cell (p := ⟨b, off + j, none⟩) hb]
      rw [idsV, List.getElem?_map] at hu
      cases hx2 : xs[j]? with
      | none => rw [hx2] at hu; cases hu
      | some y =>
        rw [hx2] at hu
        rw [hcell j y hx2, ← hu]
        rfl
    · intro g cap w' hown hgrow hor hlt
      have hcm : cap ≤ maxLen := by
        rcases hown.2 with ⟨e, _⟩ | ⟨g', cap', cur, e, _, _, _, hc, _⟩
        · cases e
        · injection e with e1 e2 e3
          omega
      obtain ⟨rest', hh, _, hcap⟩ := has_of_owns hown
      have hrow : ∀ g, Value.ownBlock (.slice (some ⟨w.heap.size, 0, none⟩) n0 n0) = some g → g = w.heap.size := fun g hg => by simpa [Value.ownBlock] using hg.symm
      have hge : w.heap.size ≤ g := by
        rcases hor with hor | rfl
        · exact Nat.le_of_eq (hrow g hor).symm
        · simp
      exact h g cap w' rest' hge hcm (by rw [idsV_app]; exact hh) hcap (((Kept.of_below (F := fun b => w.heap.size ≤ b) hb0).grown hgrow (fun g hg => .inr (Nat.le_of_eq (hrow g hg).symm))).below (Nat.le_refl _) (fun b hb hf => absurd hf (by omega)))
  · obtain rfl : m = 0 := by omega
    obtain rfl : xs = [] := List.length_eq_zero_iff.1 hm
    have hsrc : Src Tryd.prog i0.size 26 (.slice A 0 c) 0 [] (w.alloc (.cells (idsV xs0).toArray 3)) := by
      cases A with
      | none => exact Src.ofNil _ Tryd.underlying26 c
      | some ad => exact Src.ofSlice _ Tryd.underlying26 ad 0 c [] (by simp) (fun j u hu => by simp at hu) (fun u hu => by cases hu)
    have hr := run_append_nothing (P := Tryd.prog) (w.alloc (.cells (idsV xs0).toArray 3)) 26 26 o.type 3 i0 Tryd.underlying26 hi (some ⟨w.heap.size, 0, none⟩) n0 n0 (Nat.le_refl _) _ hsrc
    unfold Oper.wp execOp
    simp only [ho, resolve, invoke, builtin, Sem.run_bind, Sem.run_pure, Result.andThen_ok, List.map_toArray, List.map_cons, List.map_nil, hs, hx, hr]
    exact h w.heap.size n0 _ [] (Nat.le_refl _) (by unfold maxLen; omega) (by rw [List.append_nil, List.append_nil]; exact hmade) (by simp) hb0
/-- 'append([]int{..}, x...)': as a step of the walk. -/
theorem wpList_append_ints (w : World) (H : Nat) (hH : w.heap.size = H) (xs0 : List Nat) {ops : Array Oper} {rest : List Oper} {o : Oper} {a : Act} {Q : Exit → Act → World → Prop} (hgd : o.guard = none) (s x : Operand)
    (ho : o.op = .call { callee := .builtin .append, args := #[s, x], argTypes := #[26, 26] }) (A : Option Addr) (m c : Nat) (xs : List Nat) (n0 : Nat) (hn0 : xs0.length = n0)
    (hs : a.eval s = .slice (some ⟨H, 0, none⟩) n0 n0) (hx : a.eval x = .slice A m c) (hm : xs.length = m) (hw : NatsAt w A xs) (hk : n0 + m ≤ 1000)
    (h : ∀ g cap w' r, H ≤ g → cap ≤ maxLen → Has w' g 3 (idsV (xs0 ++ xs) ++ r) → n0 + m + r.length = cap → Below H w w' → wpList Tryd.prog ops Q rest (a.put o.dst (.slice (some ⟨g, 0, none⟩) (n0 + m) cap)) w') :
    wpList Tryd.prog ops Q (o :: rest) a (w.alloc (.cells (idsV xs0).toArray 3)) := by
  subst hH
  refine wpList_plain hgd fun K hK => ?_
  have h1 := step_append_ints (ops := ops) (E := True) (K := K) (Q := Q) w xs0 hgd s x ho A m c xs n0 hn0 hs hx hm hw hk (fun g cap w' r q1 q2 q3 q4 q5 => hK _ _ (h g cap w' r q1 q2 q3 q4 q5))
  rw [if_pos (by simp [Region.wanted, hgd])] at h1
  exact h1
theorem NatsAt.of_ints {w : World} {A : Option Addr} {cap : Nat} {l : List Nat} (h : IntsAt w A cap (l.map fun (x : Nat) => (x : Int))) : NatsAt w A l := fun h0 => by
  obtain ⟨g, rfl, hc⟩ := h.2 (by rw [List.length_map]; exact h0)
  refine ⟨g, 0, rfl, ?_, fun j x hx => ?_⟩
  · exact block_lt_of_cell (hc 0 _ (by rw [List.getElem?_map, List.getElem?_eq_getElem h0]; rfl))
  · rw [Nat.zero_add]; exact hc j x (by rw [List.getElem?_map, hx]; rfl)
/-- 'append(l, x)' of a row of one's own, which may be empty, not nil: as a step of the walk. -/
theorem wpList_append_row1 {B : Nat} (w : World) (H : Nat) (hH : w.heap.size = H) {ops : Array Oper} {rest : List Oper} {o : Oper} {a : Act} {Q : Exit → Act → World → Prop} (hgd : o.guard = none) (s x : Operand)
    (ho : o.op = .call { callee := .builtin .append, args := #[s, x], argTypes := #[26, 26] })
    (v u : Value) (xs : List Value) (n : Nat) (hn : xs.length = n) (hu : u.oneCell' = true) (hs : a.eval s = v) (hx : a.eval x = .slice (some ⟨H, 0, none⟩) 1 1) (hO : w.ownsRow B 3 1 v n xs) (hB : B ≤ H) (hlen : n ≤ 1000)
    (h : ∀ g cap w', Own1 B 3 w' (.slice (some ⟨g, 0, none⟩) (n + 1) cap) (xs ++ [u]) → Kept (fun b => v.ownBlock = some b) w w' → (v.ownBlock = some g ∨ H ≤ g) → g < w'.heap.size → wpList Tryd.prog ops Q rest (a.put o.dst (.slice (some ⟨g, 0, none⟩) (n + 1) cap)) w') :
    wpList Tryd.prog ops Q (o :: rest) a (w.alloc (.cells #[u] 3)) := by
  subst hn
  subst hH
  obtain ⟨i0, hi, hz0, hz1, hz2⟩ := info_parts Tryd.infoInt
  refine wpList_append_lies _ hgd s x 26 ho B 3 i0 (.int .i64 0) 1 8 Tryd.underlying26 hi hz0 hz1 hz2 rfl (by decide) v xs.length xs hs (hO.alloc _) ⟨w.heap.size, 0, none⟩ 1 1 [u] hx rfl (cell_one_new _ _ _) (by intro u' hu'; rw [List.mem_singleton.1 hu']; exact hu) (by decide) (by unfold maxLen; omega) (by omega) (by simp; omega) (w.heap.size + 1) (by simp) ?_
  intro g cap w' hown hgrow hat hlt
  refine h g cap w' ⟨by simpa using hown, by simp⟩ ?_ (hat.imp id (fun e => by omega)) hlt
  exact ((Kept.refl (fun b => v.ownBlock = some b) w).alloc (.cells #[u] 3)).grown hgrow (fun g hg => .inl hg)
end Go.Proofs.YtknehglahdkafaaDoor
