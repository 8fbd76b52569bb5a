/- A map from ints: which key has what, and how many there are. -/
import Derived.Test.YtjkejlnelkckgaaMem2
import Derived.Maps.OwnSet
namespace Go.Proofs.Ytjkejlnelkckgaa
open Go.ChangeShapes Go.WideShapes Go.ChangeAt Go.RowKit
open Go.Maps (Keyed IsMap Tidy int_keyed keyOf_int_mk)
set_option linter.unusedVariables false

/-- How elements lie in memory: as values, and as data. -/
structure Elem (α : Type) where
  val : α → Value
  dat : α → DataW Unit
  zero : α
  valI : ∀ a b, val a = val b → a = b
  datI : ∀ a b, dat a = dat b → a = b
open Classical in
/-- An element, read. -/
noncomputable def Elem.rd {α : Type} (E : Elem α) (v : Value) : Option (DataW Unit × List MemPlace) := if h : ∃ a, v = E.val a then some (E.dat (Classical.choose h), []) else none
theorem Elem.rd_val {α : Type} (E : Elem α) (a : α) : E.rd (E.val a) = some (E.dat a, []) := by
  unfold Elem.rd
  have h : ∃ x, E.val a = E.val x := ⟨a, rfl⟩
  rw [dif_pos h]
  have := E.valI _ _ (Classical.choose_spec h)
  rw [← this]
theorem Elem.rd_inv {α : Type} (E : Elem α) {v : Value} {a : α} {ps : List MemPlace} (h : E.rd v = some (E.dat a, ps)) : v = E.val a := by
  unfold Elem.rd at h
  split at h
  · rename_i hx
    injection h with h
    injection h with h1 h2
    rw [← E.datI _ _ h1]
    exact Classical.choose_spec hx
  · cases h
def I64 (k : Int) : Prop := -9223372036854775808 ≤ k ∧ k ≤ 9223372036854775807
theorem I64.wf {k : Int} (h : I64 k) : (Lit.int .i64 k).wf = true := by
  have := h
  unfold I64 at this
  simp [Lit.wf, IntKind.min, IntKind.max, IntKind.signed, IntKind.bits]
  omega
theorem wf_I64 {k : Int} (h : (Lit.int .i64 k).wf = true) : I64 k := by
  have hx : -9223372036854775808 ≤ k ∧ k ≤ 9223372036854775807 := by simpa [Lit.wf, IntKind.min, IntKind.max, IntKind.signed, IntKind.bits] using h
  exact hx
theorem law : Keyed Try.prog 3 := int_keyed Try.underlying3
theorem key_mk {k : Int} (h : I64 k) : keyOf Try.prog 3 (.int .i64 k) = some (.int .i64 k) := keyOf_int_mk Try.underlying3 h.wf

/-- Block b is a map of n entries; key k has f k. -/
def IMap {α : Type} (E : Elem α) (w : World) (b : Nat) (f : Int → Option α) (n : Nat) : Prop :=
  ∃ D, w.ownsMap Try.prog 3 E.rd b n D ∧ Maps.size D = n ∧ ∀ k, I64 k → Maps.has D (.int .i64 k) = (f k).isSome ∧ D.atKey (.int .i64 k) (E.dat E.zero) = E.dat ((f k).getD E.zero)
section
variable {α : Type} {E : Elem α} {w w' : World} {b n : Nat} {f : Int → Option α}
theorem IMap.lt (h : IMap E w b f n) : b < w.heap.size := by obtain ⟨D, h1, _⟩ := h; exact h1.lt
theorem IMap.obj (h : IMap E w b f n) : ∃ es cl, w.heap[b]? = some (.map es cl) := by obtain ⟨D, ⟨es, cl, h1, _⟩, _⟩ := h; exact ⟨es, cl, h1⟩
theorem IMap.ne (h : IMap E w b f n) {g : Nat} {t : TypeId} {l : List Value} (hh : Has w g t l) : b ≠ g := by
  intro e
  subst e
  obtain ⟨es, cl, h1⟩ := h.obj
  unfold Has at hh
  rw [h1] at hh
  cases hh
theorem IMap.block (h : IMap E w b f n) (he : w'.heap[b]? = w.heap[b]?) : IMap E w' b f n := by
  obtain ⟨D, ⟨es, cl, h1, h2⟩, h3⟩ := h
  exact ⟨D, ⟨es, cl, he.trans h1, h2⟩, h3⟩
theorem IMap.kept {F : Nat → Prop} (h : IMap E w b f n) (hk : Kept F w w') (hF : ¬ F b) : IMap E w' b f n := h.block (hk.block b h.lt hF)
theorem IMap.made (w : World) : IMap E (w.alloc (.map #[] 0)) w.heap.size (fun _ => none) 0 :=
  ⟨.map [], World.ownsMap_made w _ _ _, rfl, fun k _ => ⟨rfl, rfl⟩⟩
theorem tight {D : DataW Unit} {m : Nat} {R : Value → Option (DataW Unit × List MemPlace)} (h : w.ownsMap Try.prog 3 R b m D) : w.ownsMap Try.prog 3 R b (Maps.size D) D := by
  obtain ⟨es, cl, h1, h2, h3, rfl⟩ := h
  exact ⟨es, cl, h1, h2, by simp [Maps.size, length_sorted], rfl⟩
/-- 'v, ok := m[k]'. -/
theorem IMap.look_ok (h : IMap E w b f n) {t e : TypeId} (ht : Try.prog.underlying t = some (.map 3 e)) (hz : (zeroValue e).run Try.prog w = .ok (E.val E.zero) w) {k : Int} (hk : I64 k) :
    (Instr.lookup t (.map (some b)) (.int .i64 k) true).run Try.prog w = .ok (.tuple #[E.val ((f k).getD E.zero), .bool (f k).isSome]) w := by
  obtain ⟨D, h1, h2, h3⟩ := h
  obtain ⟨v, ps, hr, hv⟩ := h1.look_ok law ht hz (E.rd_val E.zero) (key_mk hk)
  rw [(h3 k hk).2] at hv
  rw [hr, E.rd_inv hv, (h3 k hk).1]
/-- 'm[k]'. -/
theorem IMap.look (h : IMap E w b f n) {t e : TypeId} (ht : Try.prog.underlying t = some (.map 3 e)) (hz : (zeroValue e).run Try.prog w = .ok (E.val E.zero) w) {k : Int} (hk : I64 k) :
    (Instr.lookup t (.map (some b)) (.int .i64 k) false).run Try.prog w = .ok (E.val ((f k).getD E.zero)) w := by
  obtain ⟨D, h1, h2, h3⟩ := h
  obtain ⟨v, ps, hr, hv⟩ := h1.lookup law ht hz (E.rd_val E.zero) (key_mk hk)
  rw [(h3 k hk).2] at hv
  rw [hr, E.rd_inv hv]
theorem IMap.len (h : IMap E w b f n) {t e : TypeId} (ht : Try.prog.underlying t = some (.map 3 e)) (ty : TypeId) : (Builtin.len_ #[t] ty #[.map (some b)]).run Try.prog w = .ok (.int .i64 (n : Int)) w := by
  obtain ⟨D, h1, h2, h3⟩ := h
  rw [h1.len ht ty, h2]
theorem int_ne {a b : Int} (h : a ≠ b) : (Lit.int .i64 a) ≠ .int .i64 b := fun e => h (by injection e)
theorem turned_kept {w w' : World} {b : Nat} (h : w.mapTurned w' b) : Kept (fun x => x = b) w w' := by
  obtain ⟨h1, h2, h3, h4, h5⟩ := h.grown
  exact ⟨h1, h2, h3, h4, fun k hk hn => h5 k hk (fun e => hn (by injection e))⟩
/-- 'm[k] = v'. -/
theorem IMap.store (h : IMap E w b f n) {t e : TypeId} (ht : Try.prog.underlying t = some (.map 3 e)) (hn : n < maxLen) {k : Int} (hk : I64 k) (x : α) :
    ∃ w', (Instr.mapUpdate t (.map (some b)) (.int .i64 k) (E.val x)).run Try.prog w = .ok () w' ∧ IMap E w' b (fun j => if j = k then some x else f j) (if (f k).isSome then n else n + 1) ∧ Kept (fun y => y = b) w w' ∧ w'.heap.size = w.heap.size := by
  obtain ⟨D, h1, h2, h3⟩ := h
  obtain ⟨w', hr, ho, ht2⟩ := h1.store law ht hn (key_mk hk) (E.rd_val x)
  have hsz : Maps.size (D.put (.int .i64 k) (E.dat x)) = if (f k).isSome then n else n + 1 := by
    rw [Maps.size_put (h1.tidy law), (h3 k hk).1, h2]
  refine ⟨w', hr, ⟨_, ?_, hsz, fun j hj => ?_⟩, turned_kept ht2, ?_⟩
  · rw [← hsz]; exact tight ho
  · by_cases e : j = k
    · subst e
      rw [Maps.has_put_same h1.isMap (by trivial), Maps.atKey_put_same h1.isMap (by trivial)]
      simp
    · rw [Maps.has_put_other (int_ne e), Maps.atKey_put_other (int_ne e)]
      simp only [if_neg e]
      exact h3 j hj
  · obtain ⟨es, cl, es', cl', _, rfl⟩ := ht2
    simp [ChangeMaps.setBlock]
/-- 'delete(m, k)'. -/
theorem IMap.drop (h : IMap E w b f n) {t e : TypeId} (ht : Try.prog.underlying t = some (.map 3 e)) {k : Int} (hk : I64 k) (ty : TypeId) :
    ∃ w', (Builtin.delete_ #[t, 3] ty #[.map (some b), .int .i64 k]).run Try.prog w = .ok (.tuple #[]) w' ∧ IMap E w' b (fun j => if j = k then none else f j) (if (f k).isSome then n - 1 else n) ∧ Kept (fun y => y = b) w w' ∧ w'.heap.size = w.heap.size := by
  obtain ⟨D, h1, h2, h3⟩ := h
  obtain ⟨w', hr, ho, ht2⟩ := h1.drop law ht (key_mk hk) ty
  have hsz : Maps.size (D.del (.int .i64 k)) = if (f k).isSome then n - 1 else n := by
    have := Maps.size_del (k := .int .i64 k) (h1.tidy law)
    rw [(h3 k hk).1, h2] at this
    cases hq : (f k).isSome <;> rw [hq] at this <;> simp at this ⊢ <;> omega
  refine ⟨w', hr, ⟨_, ?_, hsz, fun j hj => ?_⟩, turned_kept ht2, ?_⟩
  · rw [← hsz]; exact tight ho
  · by_cases e : j = k
    · subst e
      rw [Maps.has_del_same, Maps.atKey_del_same]
      simp
    · rw [Maps.has_del_other (int_ne e), Maps.atKey_del_other (int_ne e)]
      simp only [if_neg e]
      exact h3 j hj
  · obtain ⟨es, cl, es', cl', _, rfl⟩ := ht2
    simp [ChangeMaps.setBlock]
end
/-! At the operation, for the walk. -/
section
variable {α : Type} (E : Elem α) (w : World) {ops : Array Oper} {rest : List Oper} {o : Oper} {a : Act} {Q : Exit → Act → World → Prop}
theorem wpList_mlook_ok (hg : o.guard = none) (m x : Operand) (t e : TypeId) (hop : o.op = Op.lookup t m x true) (ht : Try.prog.underlying t = some (.map 3 e)) (hz : (zeroValue e).run Try.prog w = .ok (E.val E.zero) w) (b n : Nat) (f : Int → Option α)
    (hm : a.eval m = .map (some b)) (h : IMap E w b f n) (k : Int) (hx : a.eval x = .int .i64 k) (hk : I64 k) (y : α) (r : Bool) (hy : (f k).getD E.zero = y) (hr : (f k).isSome = r) (V : Value) (hV : E.val y = V)
    (hK : wpList Try.prog ops Q rest (a.put o.dst (.tuple #[V, .bool r])) w) : wpList Try.prog ops Q (o :: rest) a w := by
  refine wpList_plain hg fun K' hK' => ?_
  have hrun := h.look_ok ht hz hk
  rw [hy, hr, hV] at hrun
  unfold Oper.wp
  simp [execOp, hop, hm, hx, hrun, Result.andThen]
  exact hK' _ _ hK
theorem wpList_mlook (hg : o.guard = none) (m x : Operand) (t e : TypeId) (hop : o.op = Op.lookup t m x false) (ht : Try.prog.underlying t = some (.map 3 e)) (hz : (zeroValue e).run Try.prog w = .ok (E.val E.zero) w) (b n : Nat) (f : Int → Option α)
    (hm : a.eval m = .map (some b)) (h : IMap E w b f n) (k : Int) (hx : a.eval x = .int .i64 k) (hk : I64 k) (y : α) (hy : (f k).getD E.zero = y) (V : Value) (hV : E.val y = V)
    (hK : wpList Try.prog ops Q rest (a.put o.dst V) w) : wpList Try.prog ops Q (o :: rest) a w := by
  refine wpList_plain hg fun K' hK' => ?_
  have hrun := h.look ht hz hk
  rw [hy, hV] at hrun
  unfold Oper.wp
  simp [execOp, hop, hm, hx, hrun, Result.andThen]
  exact hK' _ _ hK
theorem wpList_mstore (hg : o.guard = none) (m x v : Operand) (t e : TypeId) (hop : o.op = Op.mapUpdate t m x v) (ht : Try.prog.underlying t = some (.map 3 e)) (b n : Nat) (f : Int → Option α)
    (hm : a.eval m = .map (some b)) (h : IMap E w b f n) (hn : n < maxLen) (k : Int) (hx : a.eval x = .int .i64 k) (hk : I64 k) (y : α) (hv : a.eval v = E.val y) (n' : Nat) (hn' : (if (f k).isSome then n else n + 1) = n')
    (hK : ∀ w', IMap E w' b (fun j => if j = k then some y else f j) n' → Kept (fun y => y = b) w w' → w'.heap.size = w.heap.size → wpList Try.prog ops Q rest (a.put o.dst undef) w') : wpList Try.prog ops Q (o :: rest) a w := by
  refine wpList_plain hg fun K' hK' => ?_
  obtain ⟨w', hrun, r1, r2, r3⟩ := h.store ht hn hk y
  rw [hn'] at r1
  unfold Oper.wp
  simp [execOp, hop, hm, hx, hv, hrun, Result.andThen]
  exact hK' _ _ (hK w' r1 r2 r3)
theorem wpList_mdelete (hg : o.guard = none) (m x : Operand) (t e : TypeId) (hop : o.op = Op.call { callee := Callee.builtin Builtin.delete, args := #[m, x], argTypes := #[t, 3] }) (ht : Try.prog.underlying t = some (.map 3 e)) (b n : Nat) (f : Int → Option α)
    (hm : a.eval m = .map (some b)) (h : IMap E w b f n) (k : Int) (hx : a.eval x = .int .i64 k) (hk : I64 k) (n' : Nat) (hn' : (if (f k).isSome then n - 1 else n) = n')
    (hK : ∀ w', IMap E w' b (fun j => if j = k then none else f j) n' → Kept (fun y => y = b) w w' → w'.heap.size = w.heap.size → wpList Try.prog ops Q rest (a.put o.dst (.tuple #[])) w') : wpList Try.prog ops Q (o :: rest) a w := by
  refine wpList_plain hg fun K' hK' => ?_
  obtain ⟨w', hrun, r1, r2, r3⟩ := h.drop ht hk o.type
  rw [hn'] at r1
  unfold Oper.wp
  simp [execOp, hop, resolve, invoke, builtin, hm, hx, hrun, Result.andThen]
  exact hK' _ _ (hK w' r1 r2 r3)
theorem wpList_mlen (hg : o.guard = none) (m : Operand) (t e : TypeId) (hop : o.op = Op.call { callee := Callee.builtin Builtin.len, args := #[m], argTypes := #[t] }) (ht : Try.prog.underlying t = some (.map 3 e)) (b n : Nat) (f : Int → Option α)
    (hm : a.eval m = .map (some b)) (h : IMap E w b f n)
    (hK : wpList Try.prog ops Q rest (a.put o.dst (.int .i64 (n : Int))) w) : wpList Try.prog ops Q (o :: rest) a w := by
  refine wpList_plain hg fun K' hK' => ?_
  unfold Oper.wp
  simp [execOp, hop, resolve, invoke, builtin, hm, h.len ht o.type, Result.andThen]
  exact hK' _ _ hK
end
end Go.Proofs.Ytjkejlnelkckgaa
