/- Rows of structs of a string and a number: a call's own, which grow by one or by a row. -/
import Derived.Test.YtgcdminjpdbchaaDoorMem2
import Derived.Test.YtgcdminjpdbchaaDoorFlat
import Derived.Deep.AppendLies
import Derived.Deep.Upon
import Derived.Maps.AppendAt
namespace Go.Proofs.YtgcdminjpdbchaaDoor
open Go.ChangeShapes Go.WideShapes Go.ChangeAt Go.RowKit
set_option linter.unusedVariables false

/-- Their cells. -/
def prV (l : List (ByteArray × Int)) : List Value := l.flatMap fun p => [.string p.1, .int .i64 p.2]
theorem prV_len (l : List (ByteArray × Int)) : (prV l).length = l.length * 2 := flatMap_len _ 2 (fun _ => rfl) l
theorem prV_app (l m : List (ByteArray × Int)) : prV (l ++ m) = prV l ++ prV m := List.flatMap_append
theorem prV_one1 (p : ByteArray × Int) : prV [p] = [.string p.1, .int .i64 p.2] := rfl
theorem prV_get (l : List (ByteArray × Int)) (i : Nat) (p : ByteArray × Int) (h : l[i]? = some p) : (prV l)[i * 2]? = some (.string p.1) ∧ (prV l)[i * 2 + 1]? = some (.int .i64 p.2) := by
  have h0 := flatMap_get (fun p : ByteArray × Int => [Value.string p.1, Value.int .i64 p.2]) 2 (fun _ => rfl) l i 0 (by decide)
  have h1 := flatMap_get (fun p : ByteArray × Int => [Value.string p.1, Value.int .i64 p.2]) 2 (fun _ => rfl) l i 1 (by decide)
  rw [h] at h0 h1
  exact ⟨h0, h1⟩
theorem prV_any (l : List (ByteArray × Int)) (j : Nat) (u : Value) (h : (prV l)[j]? = some u) : ∃ i p, l[i]? = some p ∧ ((j = i * 2 ∧ u = .string p.1) ∨ (j = i * 2 + 1 ∧ u = .int .i64 p.2)) := by
  have hj : j < l.length * 2 := by have := (List.getElem?_eq_some_iff.1 h).1; rw [prV_len] at this; exact this
  have hi : j / 2 < l.length := by omega
  obtain ⟨h1, h2⟩ := prV_get l (j / 2) l[j / 2] (List.getElem?_eq_getElem hi)
  refine ⟨j / 2, l[j / 2], List.getElem?_eq_getElem hi, ?_⟩
  rcases Nat.mod_two_eq_zero_or_one j with e | e
  · rw [show j / 2 * 2 = j by omega, h] at h1
    exact .inl ⟨by omega, Option.some.inj h1⟩
  · rw [show j / 2 * 2 + 1 = j by omega, h] at h2
    exact .inr ⟨by omega, Option.some.inj h2⟩
theorem prV_one (l : List (ByteArray × Int)) : ∀ u ∈ prV l, u.oneCell' = true := by
  intro u hu
  obtain ⟨j, hj, e⟩ := List.mem_iff_getElem.1 hu
  obtain ⟨i, p, _, h | h⟩ := prV_any l j u (by rw [List.getElem?_eq_getElem hj, e])
  · rw [h.2]; rfl
  · rw [h.2]; rfl
theorem prV_set (l : List (ByteArray × Int)) (i : Nat) (p : ByteArray × Int) (n : Int) (h : l[i]? = some p) : (prV l).set (i * 2 + 1) (.int .i64 n) = prV (l.set i (p.1, n)) :=
  flatMap_set (fun p : ByteArray × Int => [Value.string p.1, Value.int .i64 p.2]) 2 (fun _ => rfl) l i 1 (by decide) p (p.1, n) _ h rfl
/-- A slice reads so. -/
def PrAt (w : World) (A : Option Addr) (l : List (ByteArray × Int)) : Prop :=
  0 < l.length → ∃ b off, A = some ⟨b, off, none⟩ ∧ b < w.heap.size ∧ ∀ i p, l[i]? = some p → w.cell? ⟨b, off + i * 2, none⟩ = some (.string p.1) ∧ w.cell? ⟨b, off + i * 2 + 1, none⟩ = some (.int .i64 p.2)
/-- A row of a call's own. -/
def OwnPr (B : Nat) (T : TypeId) (w : World) (v : Value) (l : List (ByteArray × Int)) : Prop := w.ownsRow B T 2 v l.length (prV l)
theorem OwnPr.nil (B : Nat) (T : TypeId) (w : World) : OwnPr B T w (.slice none 0 0) [] := ⟨rfl, .inl ⟨rfl, rfl⟩⟩
theorem PrAt.nil (w : World) (A : Option Addr) : PrAt w A [] := fun h => absurd h (by decide)
theorem OwnPr.at_ {B : Nat} {T : TypeId} {w : World} {v : Value} {l : List (ByteArray × Int)} (h : OwnPr B T w v l) : ∃ A cap, v = .slice A l.length cap ∧ l.length ≤ cap ∧ cap ≤ maxLen ∧ PrAt w A l := by
  obtain ⟨h1, ⟨h2, h3⟩ | ⟨gb, cap, cur, h2, h3, h4, h5, h6, h7, h8⟩⟩ := h
  · refine ⟨none, 0, by rw [h2, h3], by omega, Nat.zero_le _, fun h => absurd h (by omega)⟩
  · refine ⟨_, cap, h2, h5, h6, fun h0 => ⟨gb, 0, rfl, ?_, fun i p hp => ?_⟩⟩
    · rcases Nat.lt_or_ge gb w.heap.size with q | q
      · exact q
      · rw [Array.getElem?_eq_none q] at h4; cases h4
    · obtain ⟨e1, e2⟩ := prV_get l i p hp
      have hi := (List.getElem?_eq_some_iff.1 hp).1
      have hc : ∀ j, j < l.length * 2 → w.cell? ⟨gb, j, none⟩ = (prV l)[j]? := fun j hj => by
        rw [cell_of_row w gb j cur T (0, 0) h4, ← h8, List.getElem?_take, if_pos hj, Array.getElem?_toList]
      rw [Nat.zero_add, hc _ (by omega), hc _ (by omega)]
      exact ⟨e1, e2⟩
theorem ownsRow_kept2 {F : Nat → Prop} {w w' : World} {base : Nat} {e : TypeId} {size : Nat} {v : Value} {n : Nat} {xs : List Value} (h : w.ownsRow base e size v n xs) (hk : Kept F w w') (hF : ∀ b, v.ownBlock = some b → ¬ F b) : w'.ownsRow base e size v n xs := by
  obtain ⟨h1, h2 | ⟨g, cap, cur, rfl, hb, hh, h3⟩⟩ := h
  · exact ⟨h1, .inl h2⟩
  · have hlt : g < w.heap.size := by
      rcases Nat.lt_or_ge g w.heap.size with hlt | hge
      · exact hlt
      · rw [Array.getElem?_eq_none hge] at hh; cases hh
    exact ⟨h1, .inr ⟨g, cap, cur, rfl, hb, (hk.block g hlt (hF g rfl)).trans hh, h3⟩⟩
theorem owns_lt {w : World} {B : Nat} {e : TypeId} {size n : Nat} {v : Value} {xs : List Value} (h : w.ownsRow B e size v n xs) {b : Nat} (hb : v.ownBlock = some b) : B ≤ b ∧ b < w.heap.size ∧ ∃ cs, w.heap[b]? = some (.cells cs e (0, 0)) := by
  rcases h.2 with ⟨rfl, _⟩ | ⟨g, cap, cur, rfl, hg, hh, _⟩
  · simp [Value.ownBlock] at hb
  · have : b = g := by simpa [Value.ownBlock] using hb.symm
    subst this
    refine ⟨hg, ?_, cur, hh⟩
    rcases Nat.lt_or_ge b w.heap.size with hlt | hge
    · exact hlt
    · rw [Array.getElem?_eq_none hge] at hh; cases hh
theorem OwnPr.kept {F : Nat → Prop} {B : Nat} {T : TypeId} {w w' : World} {v : Value} {l : List (ByteArray × Int)} (h : OwnPr B T w v l) (hk : Kept F w w') (hF : ∀ b, v.ownBlock = some b → ¬ F b) : OwnPr B T w' v l := ownsRow_kept2 h hk hF
/-- An own block is unlike one of another type. -/
theorem owns_ne {w : World} {B : Nat} {e : TypeId} {size n : Nat} {v : Value} {xs : List Value} (h : w.ownsRow B e size v n xs) {b g : Nat} {t : TypeId} {l : List Value} (hb : v.ownBlock = some b) (hg : Has w g t l) (ht : t ≠ e) : g ≠ b := by
  intro q
  subst q
  obtain ⟨_, _, cs, h3⟩ := owns_lt h hb
  unfold Has at hg
  rw [hg] at h3
  injection h3 with h3
  injection h3 with _ h4 _
  exact ht h4
theorem PrAt.below {B : Nat} {w w' : World} {A : Option Addr} {l : List (ByteArray × Int)} (h : PrAt w A l) (hb : Below B w w') (hA : ∀ b off, A = some ⟨b, off, none⟩ → b < B) : PrAt w' A l := fun h0 => by
  obtain ⟨b, off, rfl, h1, h2⟩ := h h0
  have hlt := hA b off rfl
  exact ⟨b, off, rfl, Nat.lt_of_lt_of_le h1 hb.size, fun i p hp => by rw [hb.cell (p := ⟨b, off + i * 2, none⟩) hlt, hb.cell (p := ⟨b, off + i * 2 + 1, none⟩) hlt]; exact h2 i p hp⟩
/-- 'append(l, m...)' where l is one's own: at the operation. -/
theorem wp_append_pr {T S : TypeId} (B : Nat) (hS : Tryd.prog.underlying S = some (.slice T)) (hI : (Tryd.prog.info? T).map (fun i => (i.zero, i.size, i.bytes)) = some (some (.agg #[.string ⟨#[]⟩, .int .i64 0]), 2, 24))
    (w : World) {o : Oper} {a : Act} {K : Act → World → Prop} {Q : Exit → Act → World → Prop} (s x : Operand)
    (ho : o.op = .call { callee := .builtin .append, args := #[s, x], argTypes := #[S, S] }) (v : Value) (l m : List (ByteArray × Int)) (A : Option Addr) (n c : Nat) (k : Nat) (hk : l.length + m.length = k)
    (hs : a.eval s = v) (hx : a.eval x = .slice A n c) (hm : m.length = n) (hO : OwnPr B T w v l) (hw : PrAt w A m) (hB : B ≤ w.heap.size) (hlen : k ≤ 100000)
    (h : ∀ A' cap w', OwnPr B T w' (.slice A' k cap) (l ++ m) → Kept (fun b => v.ownBlock = some b) w w' → (∀ g, (Value.slice A' k cap).ownBlock = some g → v.ownBlock = some g ∨ w.heap.size ≤ g) → K (a.put o.dst (.slice A' k cap)) w') :
    o.wp Tryd.prog a w K Q := by
  subst hk
  obtain ⟨i0, hi, hz0, hz1, hz2⟩ := info_parts hI
  by_cases h0 : 0 < n
  · obtain ⟨b, off, rfl, hb, hcell⟩ := hw (by omega)
    refine wp_append_lies _ s x S ho B T i0 (.agg #[.string ⟨#[]⟩, .int .i64 0]) 2 24 hS hi hz0 hz1 hz2 rfl (by decide) v l.length (prV l) hs hO ⟨b, off, none⟩ n c (prV m) hx (by rw [prV_len]; omega) ?_ (prV_one m) h0 (by unfold maxLen; omega) (by omega) hB _ rfl ?_
    · intro j u hu
      rw [show (⟨b, off, none⟩ : Addr).add j = ⟨b, off + j, none⟩ by unfold Addr.add; split <;> simp_all]
      obtain ⟨i, p, hp, ⟨rfl, rfl⟩ | ⟨rfl, rfl⟩⟩ := prV_any m j u hu
      · exact (hcell i p hp).1
      · exact (hcell i p hp).2
    · intro g cap w' hown hgrow hor hlt
      subst hm
      refine h (some ⟨g, 0, none⟩) cap w' ?_ ((Kept.refl _ _).grown hgrow (fun g hg => .inl hg)) ?_
      · unfold OwnPr
        rw [prV_app, List.length_append]; exact hown
      · intro g' hg'
        have : g' = g := by simpa [Value.ownBlock] using hg'.symm
        subst this
        exact hor.imp id (fun e => Nat.le_of_eq e.symm)
  · obtain rfl : n = 0 := by omega
    obtain rfl : m = [] := List.length_eq_zero_iff.1 hm
    obtain ⟨A', cap, rfl, hle, _, _⟩ := hO.at_
    have hsrc : Src Tryd.prog i0.size S (.slice A 0 c) 0 [] w := by
      cases A with
      | none => exact Src.ofNil _ hS c
      | some ad => exact Src.ofSlice _ hS ad 0 c [] (by simp) (fun j u hu => by simp at hu) (fun u hu => by cases hu)
    have hr := run_append_nothing (P := Tryd.prog) w S S o.type T i0 hS hi A' l.length cap hle _ hsrc
    unfold Oper.wp execOp
    simp only [ho, resolve, invoke, builtin, Sem.run_bind, Sem.run_pure, Result.andThen_ok, List.map_toArray, List.map_cons, List.map_nil, hs, hx, hr]
    exact h A' cap w (by rw [List.append_nil]; exact hO) (Kept.refl _ _) (fun g hg => .inl hg)
/-- .. at a step of a region that draws. -/
theorem step_append_pr {T S : TypeId} (B : Nat) (hS : Tryd.prog.underlying S = some (.slice T)) (hI : (Tryd.prog.info? T).map (fun i => (i.zero, i.size, i.bytes)) = some (some (.agg #[.string ⟨#[]⟩, .int .i64 0]), 2, 24))
    (w : World) {ops : Array Oper} {o : Oper} {a : Act} {K : Act → World → Prop} {Q : Exit → Act → World → Prop} {E : Prop} (hgd : o.guard = none) (s x : Operand)
    (ho : o.op = .call { callee := .builtin .append, args := #[s, x], argTypes := #[S, S] }) (v : Value) (l m : List (ByteArray × Int)) (A : Option Addr) (n c : Nat) (k : Nat) (hk : l.length + m.length = k)
    (hs : a.eval s = v) (hx : a.eval x = .slice A n c) (hm : m.length = n) (hO : OwnPr B T w v l) (hw : PrAt w A m) (hB : B ≤ w.heap.size) (hlen : k ≤ 100000)
    (h : ∀ A' cap w', OwnPr B T w' (.slice A' k cap) (l ++ m) → Kept (fun b => v.ownBlock = some b) w w' → (∀ g, (Value.slice A' k cap).ownBlock = some g → v.ownBlock = some g ∨ w.heap.size ≤ g) → K (a.put o.dst (.slice A' k cap)) w') :
    if Region.wanted o (yielded ops a.tmps) = true then Oper.wp Tryd.prog o a w K Q else E := by
  rw [if_pos (by simp [Region.wanted, hgd])]
  exact wp_append_pr B hS hI w s x ho v l m A n c k hk hs hx hm hO hw hB hlen h
/-- .. at a step of the walk. -/
theorem wpList_append_pr {T S : TypeId} (B : Nat) (hS : Tryd.prog.underlying S = some (.slice T)) (hI : (Tryd.prog.info? T).map (fun i => (i.zero, i.size, i.bytes)) = some (some (.agg #[.string ⟨#[]⟩, .int .i64 0]), 2, 24))
    (w : World) {ops : Array Oper} {rest : List Oper} {o : Oper} {a : Act} {Q : Exit → Act → World → Prop} (hgd : o.guard = none) (s x : Operand)
    (ho : o.op = .call { callee := .builtin .append, args := #[s, x], argTypes := #[S, S] }) (v : Value) (l m : List (ByteArray × Int)) (A : Option Addr) (n c : Nat) (k : Nat) (hk : l.length + m.length = k)
    (hs : a.eval s = v) (hx : a.eval x = .slice A n c) (hm : m.length = n) (hO : OwnPr B T w v l) (hw : PrAt w A m) (hB : B ≤ w.heap.size) (hlen : k ≤ 100000)
    (h : ∀ A' cap w', OwnPr B T w' (.slice A' k cap) (l ++ m) → Kept (fun b => v.ownBlock = some b) w w' → (∀ g, (Value.slice A' k cap).ownBlock = some g → v.ownBlock = some g ∨ w.heap.size ≤ g) → wpList Tryd.prog ops Q rest (a.put o.dst (.slice A' k cap)) w') :
    wpList Tryd.prog ops Q (o :: rest) a w :=
  wpList_plain hgd fun _ hK => wp_append_pr B hS hI w s x ho v l m A n c k hk hs hx hm hO hw hB hlen fun A' cap w' q1 q2 q3 => hK _ _ (h A' cap w' q1 q2 q3)
/-- A literal in a block of its own. -/
theorem PrAt.lit {w : World} {g : Nat} {T : TypeId} {p : ByteArray × Int} (h : Has w g T [.string p.1, .int .i64 p.2]) : PrAt w (some ⟨g, 0, none⟩) [p] := fun _ => ⟨g, 0, rfl, h.lt, fun i q hq => by
  have : i = 0 := by have := (List.getElem?_eq_some_iff.1 hq).1; simp at this; exact this
  subst this
  have : p = q := by simpa using hq
  subst this
  exact ⟨h.cell 0, h.cell 1⟩⟩
end Go.Proofs.YtgcdminjpdbchaaDoor
