/- The calls of a table, over a map of keys to values alone. -/
import Derived.Test.YtgcdminjpdbchaaDoorRb8
namespace Go.Proofs.YtgcdminjpdbchaaDoor
open Go.ChangeShapes Go.WideShapes Go.ChangeAt Go.RowKit Go.Shelf Go.Sort
set_option linter.unusedVariables false

/-- A map, changed at one key. -/
def upd (M : ByteArray → Option Int) (k : ByteArray) (o : Option Int) : ByteArray → Option Int := fun x => if x = k then o else M x
theorem upd_same (M : ByteArray → Option Int) (k : ByteArray) (o : Option Int) : upd M k o k = o := if_pos rfl
theorem upd_other (M : ByteArray → Option Int) {k x : ByteArray} (o : Option Int) (h : x ≠ k) : upd M k o x = M x := if_neg h
/-- A table that has just a map's keys. -/
def TT (w : World) (bP bS seed bits : Nat) (M : ByteArray → Option Int) (c : Nat) : Prop :=
  ∃ s, Tb w bP bS seed bits (2 ^ bits) s ∧ (∀ k v, HasK (2 ^ bits) s k v ↔ M k = some v) ∧ cnt s = c
section
variable {w w' : World} {bP bS seed bits c : Nat} {M : ByteArray → Option Int}
theorem TT.kept {F : Nat → Prop} (h : TT w bP bS seed bits M c) (hk : Kept F w w') (h1 : ¬ F bP) (h2 : ¬ F bS) : TT w' bP bS seed bits M c := by
  obtain ⟨s, a, b, d⟩ := h; exact ⟨s, a.kept hk h1 h2, b, d⟩
theorem TT.below (h : TT w bP bS seed bits M c) (hb : Below w.heap.size w w') : TT w' bP bS seed bits M c := by
  obtain ⟨s, a, b, d⟩ := h; exact ⟨s, a.below hb, b, d⟩
theorem TT.drewN (h : TT w bP bS seed bits M c) (m : Nat) : TT (w.drewN m) bP bS seed bits M c := by
  obtain ⟨s, a, b, d⟩ := h; exact ⟨s, a.drewN m, b, d⟩
theorem TT.lt (h : TT w bP bS seed bits M c) : bP < w.heap.size ∧ bS < w.heap.size := by
  obtain ⟨s, a, b, d⟩ := h; exact a.is.lt
theorem TT.le (h : TT w bP bS seed bits M c) : c ≤ 2 ^ bits := by
  obtain ⟨s, a, b, d⟩ := h; rw [← d, ← a.is.le]; exact cnt_le s
theorem TT.ok (h : TT w bP bS seed bits M c) {k : ByteArray} {v : Int} (e : M k = some v) : 1 ≤ k.size ∧ k.size ≤ 33 ∧ I64 v := by
  obtain ⟨s, a, b, d⟩ := h
  obtain ⟨i, hi, hu, rfl, rfl⟩ := (b k v).2 e
  exact ⟨(a.ks i hi hu).1, (a.ks i hi hu).2, a.vs i hi⟩
end
theorem atS_zero (n i : Nat) : atS (List.replicate n zS) i = zS := by
  unfold atS
  rw [List.getD_eq_getElem?_getD, List.getElem?_replicate]
  split <;> rfl
def MadeT (seed bits : Nat) (w : World) (e : Ending) (w' : World) : Prop := ∃ bP bS, e = .returned (.tuple #[.pointer (some ⟨bP, 0, none⟩), .int .i64 0]) ∧ TT w' bP bS seed bits (fun _ => none) 0 ∧ Below w.heap.size w w' ∧ w.heap.size ≤ bP ∧ w.heap.size ≤ bS
theorem New_T (seed bits : Nat) (w : World) (hs : U seed) (b1 : 1 ≤ bits) (b2 : bits ≤ 8) : Calls Tryd.prog 12 #[.int .u64 (seed : Int), .int .i64 (bits : Int)] w (MadeT seed bits w) := by
  refine (New_yes seed bits w hs b1 b2).mono ?_
  rintro e w' ⟨bP, bS, rfl, hT, hb, h1, h2⟩
  refine ⟨bP, bS, rfl, ⟨_, hT, fun k v => ⟨?_, fun h => by cases h⟩, ?_⟩, hb, h1, h2⟩
  · rintro ⟨i, hi, hu, _⟩
    rw [atS_zero] at hu
    cases hu
  · unfold cnt
    rw [List.length_eq_zero_iff, List.filter_eq_nil_iff]
    intro x hx
    rw [List.eq_of_mem_replicate hx]
    simp [zS]
/-- What Put tells, and makes of a map of so many keys. -/
def putR (n : Nat) (M : ByteArray → Option Int) (c : Nat) (k : ByteArray) (v : Int) : Int × (ByteArray → Option Int) × Nat :=
  if 1 ≤ k.size ∧ k.size ≤ 33 then (if (M k).isSome then (0, upd M k (some v), c) else if c = n then (4, M, c) else (0, upd M k (some v), c + 1)) else (1, M, c)
def PutT (bP bS seed bits : Nat) (r : Int × (ByteArray → Option Int) × Nat) (w : World) (e : Ending) (w' : World) : Prop := e = .returned (.int .i64 r.1) ∧ TT w' bP bS seed bits r.2.1 r.2.2 ∧ Kept (fun b => b = bS) w w'
theorem upd_iff {M : ByteArray → Option Int} {k : ByteArray} {v : Int} {P : ByteArray → Int → Prop} (h : ∀ k v, P k v ↔ M k = some v) (k' : ByteArray) (v' : Int) : ((k' = k ∧ v' = v) ∨ (k' ≠ k ∧ P k' v')) ↔ upd M k (some v) k' = some v' := by
  unfold upd
  by_cases e : k' = k
  · rw [if_pos e]; simp [e, eq_comm]
  · rw [if_neg e]; simp [e, h]
theorem Put_T (bP bS seed bits : Nat) (M : ByteArray → Option Int) (c : Nat) (k : ByteArray) (v : Int) (w : World) (h : TT w bP bS seed bits M c) (ht : TabW w) (hk : k.size ≤ maxLen) (hv : I64 v) :
    Calls Tryd.prog 21 #[.pointer (some ⟨bP, 0, none⟩), .string k, .int .i64 v] w (PutT bP bS seed bits (putR (2 ^ bits) M c k v) w) := by
  obtain ⟨s, hT, hM, hc⟩ := h
  have main : Calls Tryd.prog 21 #[.pointer (some ⟨bP, 0, none⟩), .string k, .int .i64 v] w (PutTold bP bS seed bits (2 ^ bits) s k v w) := by
    by_cases hb : 1 ≤ k.size ∧ k.size ≤ 33
    · exact Put_ok bP bS seed bits _ s k v w hT ht hb hv
    · exact Put_bad bP bS seed bits _ s k v w hT hb hk
  refine main.mono ?_
  rintro e w' ⟨code, s', rfl, hT', hK, hP⟩
  unfold putR
  cases hP with
  | bad hb => rw [if_neg hb]; exact ⟨rfl, ⟨s, hT', hM, hc⟩, hK⟩
  | full hb hno hf =>
    have hn : M k = none := by
      cases e : M k with
      | none => rfl
      | some x => exact absurd ((hM k x).2 e) (hno x)
    rw [if_pos hb, hn, if_neg (by simp), if_pos (by omega)]
    exact ⟨rfl, ⟨s, hT', hM, hc⟩, hK⟩
  | set hb s' hy hm hcc =>
    obtain ⟨x, hx⟩ := hy
    rw [if_pos hb, (hM k x).1 hx, if_pos (by simp)]
    exact ⟨rfl, ⟨s', hT', fun k' v' => (hm k' v').trans (upd_iff hM k' v'), (by show cnt s' = _; dsimp only; omega)⟩, hK⟩
  | new hb s' hno hm hcc =>
    have hn : M k = none := by
      cases e : M k with
      | none => rfl
      | some x => exact absurd ((hM k x).2 e) (hno x)
    have hl := cnt_le s'
    rw [hT'.is.le] at hl
    rw [if_pos hb, hn, if_neg (by simp), if_neg (by omega)]
    exact ⟨rfl, ⟨s', hT', fun k' v' => (hm k' v').trans (upd_iff hM k' v'), (by show cnt s' = _; dsimp only; omega)⟩, hK⟩
theorem Get_T (bP bS seed bits : Nat) (M : ByteArray → Option Int) (c : Nat) (k : ByteArray) (w : World) (h : TT w bP bS seed bits M c) (ht : TabW w) (hk : k.size ≤ maxLen) :
    Calls Tryd.prog 25 #[.pointer (some ⟨bP, 0, none⟩), .string k] w fun e w' => e = .returned (.tuple #[.int .i64 ((M k).getD 0), .bool (M k).isSome]) ∧ Below w.heap.size w w' := by
  obtain ⟨s, hT, hM, hc⟩ := h
  refine (Get_any bP bS seed bits _ s k w hT ht hk).mono ?_
  rintro e w' ⟨z, r, rfl, ⟨m, rfl⟩, ⟨hy, rfl⟩ | ⟨hno, rfl, rfl⟩⟩
  · rw [(hM k z).1 hy]
    exact ⟨rfl, below_drewN (Below.refl _ _) m⟩
  · have hn : M k = none := by
      cases e : M k with
      | none => rfl
      | some x => exact absurd ((hM k x).2 e) (hno x)
    rw [hn]
    exact ⟨rfl, below_drewN (Below.refl _ _) m⟩
def DelT (bP bS seed bits : Nat) (M : ByteArray → Option Int) (c : Nat) (k : ByteArray) (w : World) (e : Ending) (w' : World) : Prop :=
  e = .returned (.bool (M k).isSome) ∧ TT w' bP bS seed bits (upd M k none) (if (M k).isSome then c - 1 else c) ∧ Kept (fun b => b = bS) w w' ∧ ((M k).isSome = true → 1 ≤ c)
theorem Delete_T (bP bS seed bits : Nat) (M : ByteArray → Option Int) (c : Nat) (k : ByteArray) (w : World) (h : TT w bP bS seed bits M c) (ht : TabW w) (hk : k.size ≤ maxLen) :
    Calls Tryd.prog 22 #[.pointer (some ⟨bP, 0, none⟩), .string k] w (DelT bP bS seed bits M c k w) := by
  obtain ⟨s, hT, hM, hc⟩ := h
  refine (Delete_any bP bS seed bits _ s k w hT ht hk).mono ?_
  rintro e w' ⟨r, s', rfl, hT', hK, hD⟩
  cases hD with
  | no hno =>
    have hn : M k = none := by
      cases e : M k with
      | none => rfl
      | some x => exact absurd ((hM k x).2 e) (hno x)
    have hu : upd M k none = M := by
      funext x
      unfold upd
      split
      · next e => rw [e, hn]
      · rfl
    unfold DelT
    rw [hu, hn]
    exact ⟨rfl, ⟨s, hT', hM, hc⟩, hK, by simp⟩
  | yes s' hy hm hcc =>
    obtain ⟨x, hx⟩ := hy
    have hs := (hM k x).1 hx
    unfold DelT
    rw [hs]
    refine ⟨rfl, ⟨s', hT', fun k' v' => (hm k' v').trans ?_, by simp; omega⟩, hK, fun _ => by omega⟩
    unfold upd
    split
    · next e => simp [e]
    · next e => simp [e, hM]
theorem Len_T (bP bS seed bits : Nat) (M : ByteArray → Option Int) (c : Nat) (w : World) (h : TT w bP bS seed bits M c) :
    Calls Tryd.prog 15 #[.pointer (some ⟨bP, 0, none⟩)] w fun e w' => e = .returned (.int .i64 (c : Int)) ∧ Below w.heap.size w w' := by
  obtain ⟨s, hT, hM, hc⟩ := h
  rw [← hc, ← usedL_cnt hT.is.le]
  exact Len_any bP bS seed bits _ s w hT.is hT.n256
/-- What Keys tells of a map of so many keys. -/
def KeysT (M : ByteArray → Option Int) (c : Nat) (w : World) (e : Ending) (w' : World) : Prop :=
  ∃ us : List RS, us.length = c ∧ (us.map fun x => x.k).Nodup ∧ (∀ k, (∃ x, x ∈ us ∧ x.k = k) ↔ (M k).isSome = true) ∧ StrsTold ((us.map kB).mergeSort fun x y => decide (x ≤ y)) w e w'
theorem mem_used {s : List RS} {n : Nat} (hl : s.length = n) (x : RS) : x ∈ usedL s n ↔ ∃ i, i < n ∧ (atS s i).u = true ∧ atS s i = x := by
  unfold usedL
  rw [← hl, List.take_length, List.mem_filter]
  constructor
  · rintro ⟨hm, hu⟩
    obtain ⟨i, hi, he⟩ := List.getElem_of_mem hm
    have : atS s i = x := by have := atS_get hi; rw [List.getElem?_eq_getElem hi, he] at this; exact (Option.some.inj this).symm
    exact ⟨i, hi, by rw [this]; exact hu, this⟩
  · rintro ⟨i, hi, hu, rfl⟩
    exact ⟨List.mem_of_getElem? (atS_get hi), hu⟩
theorem atS_el {s : List RS} {i : Nat} (hi : i < s.length) : atS s i = s[i] := by
  have := atS_get hi
  rw [List.getElem?_eq_getElem hi] at this
  exact (Option.some.inj this).symm
theorem nodup_used {hm : ByteArray → Nat} {n : Nat} {s : List RS} (h : WellT hm n s) : ((usedL s n).map fun x => x.k).Nodup := by
  unfold usedL
  have hl := h.len
  rw [← hl, List.take_length]
  unfold List.Nodup
  rw [List.pairwise_map, List.pairwise_filter, List.pairwise_iff_getElem]
  intro i j hi hj hij h1 h2 he
  rw [← atS_el hi] at h1 he
  rw [← atS_el hj] at h2 he
  have := h.nd i j (by omega) (by omega) h1 h2 he
  omega
theorem Keys_T (bP bS seed bits : Nat) (M : ByteArray → Option Int) (c : Nat) (w : World) (h : TT w bP bS seed bits M c) :
    Calls Tryd.prog 17 #[.pointer (some ⟨bP, 0, none⟩)] w (KeysT M c w) := by
  obtain ⟨s, hT, hM, hc⟩ := h
  refine (Keys_tells bP bS seed bits _ s w hT.is hT.n256).mono ?_
  intro e w' hS
  refine ⟨usedL s (2 ^ bits), by rw [usedL_cnt hT.is.le, hc], nodup_used hT.we, fun k => ?_, hS⟩
  rw [Option.isSome_iff_exists]
  constructor
  · rintro ⟨x, hx, rfl⟩
    obtain ⟨i, hi, hu, rfl⟩ := (mem_used hT.is.le x).1 hx
    exact ⟨_, (hM _ _).1 ⟨i, hi, hu, rfl, rfl⟩⟩
  · rintro ⟨v, hv⟩
    obtain ⟨i, hi, hu, hk, _⟩ := (hM k v).2 hv
    exact ⟨_, (mem_used hT.is.le _).2 ⟨i, hi, hu, rfl⟩, hk⟩
def RowT (n : Nat) (w : World) (e : Ending) (w' : World) : Prop := ∃ (v : Value) (s : List RS), e = .returned v ∧ w'.ownsRow w.heap.size 52 4 v n (s.flatMap slV) ∧ s.length = n ∧ Below w.heap.size w w'
theorem Slots_T (bP bS seed bits : Nat) (M : ByteArray → Option Int) (c : Nat) (w : World) (h : TT w bP bS seed bits M c) :
    Calls Tryd.prog 20 #[.pointer (some ⟨bP, 0, none⟩)] w (RowT (2 ^ bits) w) := by
  obtain ⟨s, hT, hM, hc⟩ := h
  refine (Slots_any bP bS seed bits _ s w hT).mono ?_
  rintro e w' ⟨v, rfl, ho, hb⟩
  rw [hT.is.le] at ho
  exact ⟨v, s, rfl, ho, hT.is.le, hb⟩
/-- One key alone. -/
theorem KeysT.one {M : ByteArray → Option Int} {w w' : World} {e : Ending} {k : ByteArray} (h : KeysT M 1 w e w') (hk : (M k).isSome = true) : ∃ v, e = .returned v ∧ w'.ownsRow w.heap.size 9 1 v 1 [.string k] ∧ Below w.heap.size w w' := by
  obtain ⟨us, hl, _, hm, v, rfl, ho, _, hb⟩ := h
  obtain ⟨x, rfl⟩ := List.length_eq_one_iff.1 hl
  obtain ⟨y, hy, he⟩ := (hm k).2 hk
  rw [List.mem_singleton.1 hy] at he
  subst he
  have e1 : (List.map kB [x]).mergeSort (fun x y => decide (x ≤ y)) = [kB x] := by simp
  rw [e1] at ho
  refine ⟨v, rfl, ?_, hb⟩
  have := encStr_kB x
  simpa [this] using ho
theorem Put_newT (bP bS seed bits : Nat) (M : ByteArray → Option Int) (c : Nat) (k : ByteArray) (v : Int) (w : World) (h : TT w bP bS seed bits M c) (ht : TabW w) (hk : 1 ≤ k.size ∧ k.size ≤ 33) (hv : I64 v) (hn : M k = none) (hc : c ≠ 2 ^ bits) :
    Calls Tryd.prog 21 #[.pointer (some ⟨bP, 0, none⟩), .string k, .int .i64 v] w (PutT bP bS seed bits (0, upd M k (some v), c + 1) w) := by
  have := Put_T bP bS seed bits M c k v w h ht (Nat.le_trans hk.2 (by decide)) hv
  unfold putR at this
  rwa [if_pos hk, hn, if_neg (by simp), if_neg hc] at this
theorem Put_fullT (bP bS seed bits : Nat) (M : ByteArray → Option Int) (c : Nat) (k : ByteArray) (v : Int) (w : World) (h : TT w bP bS seed bits M c) (ht : TabW w) (hk : 1 ≤ k.size ∧ k.size ≤ 33) (hv : I64 v) (hn : M k = none) (hc : c = 2 ^ bits) :
    Calls Tryd.prog 21 #[.pointer (some ⟨bP, 0, none⟩), .string k, .int .i64 v] w (PutT bP bS seed bits (4, M, c) w) := by
  have := Put_T bP bS seed bits M c k v w h ht (Nat.le_trans hk.2 (by decide)) hv
  unfold putR at this
  rwa [if_pos hk, hn, if_neg (by simp), if_pos hc] at this
theorem Put_setT (bP bS seed bits : Nat) (M : ByteArray → Option Int) (c : Nat) (k : ByteArray) (v : Int) (w : World) (h : TT w bP bS seed bits M c) (ht : TabW w) (hk : 1 ≤ k.size ∧ k.size ≤ 33) (hv : I64 v) (hn : (M k).isSome = true) :
    Calls Tryd.prog 21 #[.pointer (some ⟨bP, 0, none⟩), .string k, .int .i64 v] w (PutT bP bS seed bits (0, upd M k (some v), c) w) := by
  have := Put_T bP bS seed bits M c k v w h ht (Nat.le_trans hk.2 (by decide)) hv
  unfold putR at this
  rwa [if_pos hk, if_pos hn] at this
theorem Put_badT (bP bS seed bits : Nat) (M : ByteArray → Option Int) (c : Nat) (k : ByteArray) (v : Int) (w : World) (h : TT w bP bS seed bits M c) (ht : TabW w) (hk : k.size ≤ maxLen) (hv : I64 v) (hb : ¬ (1 ≤ k.size ∧ k.size ≤ 33)) :
    Calls Tryd.prog 21 #[.pointer (some ⟨bP, 0, none⟩), .string k, .int .i64 v] w (PutT bP bS seed bits (1, M, c) w) := by
  have := Put_T bP bS seed bits M c k v w h ht hk hv
  unfold putR at this
  rwa [if_neg hb] at this
theorem Get_at (bP bS seed bits : Nat) (M : ByteArray → Option Int) (c : Nat) (k : ByteArray) (o : Option Int) (w : World) (h : TT w bP bS seed bits M c) (ht : TabW w) (hk : k.size ≤ maxLen) (ho : M k = o) :
    Calls Tryd.prog 25 #[.pointer (some ⟨bP, 0, none⟩), .string k] w fun e w' => e = .returned (.tuple #[.int .i64 (o.getD 0), .bool o.isSome]) ∧ Below w.heap.size w w' := by
  rw [← ho]; exact Get_T bP bS seed bits M c k w h ht hk
theorem Delete_at (bP bS seed bits : Nat) (M : ByteArray → Option Int) (c : Nat) (k : ByteArray) (r : Bool) (w : World) (h : TT w bP bS seed bits M c) (ht : TabW w) (hk : k.size ≤ maxLen) (hr : (M k).isSome = r) :
    Calls Tryd.prog 22 #[.pointer (some ⟨bP, 0, none⟩), .string k] w fun e w' => e = .returned (.bool r) ∧ TT w' bP bS seed bits (upd M k none) (if r then c - 1 else c) ∧ Kept (fun b => b = bS) w w' := by
  refine (Delete_T bP bS seed bits M c k w h ht hk).mono ?_
  rintro e w' ⟨rfl, hT, hK, _⟩
  rw [hr] at hT ⊢
  exact ⟨rfl, hT, hK⟩
def KeysOne (k : ByteArray) (w : World) (e : Ending) (w' : World) : Prop := ∃ g cap, e = .returned (.slice (some ⟨g, 0, none⟩) 1 cap) ∧ (∀ w'', Below w'.heap.size w' w'' → w''.cell? ⟨g, 0, none⟩ = some (.string k)) ∧ Below w.heap.size w w'
theorem Keys_one (bP bS seed bits : Nat) (M : ByteArray → Option Int) (k : ByteArray) (w : World) (h : TT w bP bS seed bits M 1) (hk : (M k).isSome = true) :
    Calls Tryd.prog 17 #[.pointer (some ⟨bP, 0, none⟩)] w (KeysOne k w) := by
  refine (Keys_T bP bS seed bits M 1 w h).mono ?_
  intro e w' hS
  obtain ⟨v, rfl, ho, hb⟩ := hS.one hk
  rcases ho.2 with ⟨_, h0⟩ | ⟨g, cap, cur, rfl, hbase, hc, q1, q2, q3, q4⟩
  · cases h0
  · refine ⟨g, cap, rfl, fun w'' hw => ?_, hb⟩
    have hlt := (Array.getElem?_eq_some_iff.1 hc).1
    have h1 : w''.heap[g]? = some (.cells cur 9 (0, 0)) := by rw [hw.block g hlt]; exact hc
    have h2 : cur.toList[0]? = some (.string k) := by
      have : (cur.toList.take 1)[0]? = some (Value.string k) := by rw [show cur.toList.take 1 = [Value.string k] by simpa using q4]; rfl
      rwa [List.getElem?_take_of_lt (by decide)] at this
    simp only [World.cell?, h1]
    simpa using h2
def SlotsLen (n : Nat) (w : World) (e : Ending) (w' : World) : Prop := ∃ g cap, e = .returned (.slice (some ⟨g, 0, none⟩) n cap) ∧ Below w.heap.size w w'
theorem Slots_len (bP bS seed bits : Nat) (M : ByteArray → Option Int) (c n : Nat) (w : World) (h : TT w bP bS seed bits M c) (hn : n = 2 ^ bits) :
    Calls Tryd.prog 20 #[.pointer (some ⟨bP, 0, none⟩)] w (SlotsLen n w) := by
  subst hn
  refine (Slots_T bP bS seed bits M c w h).mono ?_
  rintro e w' ⟨v, s, rfl, ho, hl, hb⟩
  rcases ho.2 with ⟨_, h0⟩ | ⟨g, cap, cur, rfl, _⟩
  · exact absurd h0 (Nat.ne_of_gt (Nat.two_pow_pos bits))
  · exact ⟨g, cap, rfl, hb⟩
end Go.Proofs.YtgcdminjpdbchaaDoor
