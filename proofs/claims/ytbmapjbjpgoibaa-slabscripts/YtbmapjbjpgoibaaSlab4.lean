/- The contract of slab's New. -/
import Derived.Test.YtbmapjbjpgoibaaSlab3
import Derived.Laws.MakeOwn
namespace Go.Proofs.Ytbmapjbjpgoibaa
open Go.ChangeShapes Go.WideShapes Go.ChangeAt Go.RowKit
set_option linter.unusedVariables false

theorem New_bad (n k : Int) (w : World) (h : ¬ (1 ≤ n ∧ n ≤ 64 ∧ 0 ≤ k ∧ k ≤ 32)) :
    Calls Try.prog 11 #[.int .i64 n, .int .i64 k] w fun e w' => e = .returned (.tuple #[.pointer none, .int .i64 1]) ∧ w = w' := by
  by_cases h1 : n < 1
  · clear h
    go_enter Try.func11, Try.ntmps11
    go_wp2
    go_ret2
    exact ⟨rfl, rfl⟩
  by_cases h2 : 64 < n
  · clear h
    go_enter Try.func11, Try.ntmps11
    go_wp2
    go_ret2
    exact ⟨rfl, rfl⟩
  by_cases h3 : k < 0
  · clear h
    go_enter Try.func11, Try.ntmps11
    go_wp2
    go_ret2
    exact ⟨rfl, rfl⟩
  have h4 : 32 < k := by omega
  clear h
  go_enter Try.func11, Try.ntmps11
  go_wp2
  go_ret2
  exact ⟨rfl, rfl⟩

theorem Try.infoCell : (Try.prog.info? 58).map (fun i => (i.zero, i.size, i.bytes)) = some (some (.agg #[.bool false, .int .i64 0, .slice none 0 0]), 3, 40) := by kernel_rfl
theorem Try.infoInt : (Try.prog.info? 3).map (fun i => (i.zero, i.size, i.bytes)) = some (some (.int .i64 0), 1, 8) := by kernel_rfl

theorem made_one (v : Value) (k : Nat) : madeCells #[v] k = (List.replicate k v).toArray := by
  apply Array.ext'
  simp [madeCells, Nat.mod_one, List.map_const']
theorem made_flat {α : Type} (f : α → List Value) (m : Nat) (hm : ∀ a, (f a).length = m) (h0 : 0 < m) (a : α) (n : Nat) : madeCells (f a).toArray (n * m) = ((List.replicate n a).flatMap f).toArray := by
  apply Array.ext'
  apply List.ext_getElem?
  intro j
  have hj : j = (j / m) * m + j % m := by rw [Nat.mul_comm]; exact (Nat.div_add_mod j m).symm
  have hr : j % m < m := Nat.mod_lt _ h0
  by_cases hlt : j < n * m
  · have hd : j / m < n := (Nat.div_lt_iff_lt_mul h0).2 hlt
    have h2 : ((List.replicate n a).flatMap f)[j]? = (f a)[j % m]? := by
      rw [hj, flatMap_get f m hm _ _ _ hr, ← hj]
      simp [hd]
    rw [List.toList_toArray, h2]
    simp [madeCells, hlt, hm]
    have : j % m < (f a).length := by rw [hm]; exact hr
    simp [this]
  · have e1 : (madeCells (f a).toArray (n * m)).toList[j]? = none := by rw [List.getElem?_eq_none]; rw [Array.length_toList, size_madeCells]; omega
    have e2 : ((List.replicate n a).flatMap f)[j]? = none := by rw [List.getElem?_eq_none]; rw [flatMap_len f m hm]; simp; omega
    rw [e1, List.toList_toArray, e2]

/-- A cell as New makes it: with words, or without. -/
def ncV (k : Nat) : Option Nat → List Value
  | some b => [.bool false, .int .i64 0, .slice (some ⟨b, 0, none⟩) k k]
  | none => [.bool false, .int .i64 0, .slice none 0 0]
theorem ncV_len (k : Nat) (a : Option Nat) : (ncV k a).length = 3 := by cases a <;> rfl
theorem run_makeW (k : Nat) (hk : k ≤ 32) (u : World) : (Instr.makeSlice 33 (.int .i64 (k : Int)) (.int .i64 (k : Int))).run Try.prog u =
      .ok (.slice (some ⟨u.heap.size, 0, none⟩) k k) (u.alloc (.cells (wordsV (List.replicate k 0)).toArray 49)) := by
  obtain ⟨i0, hi, hz0, hz1, hz2⟩ := info_parts Try.infoU64
  have h := run_make (P := Try.prog) u 33 49 i0 (.int .u64 0) Try.underlying33 hi hz0 .i64 .i64 (k : Int) (k : Int) (by omega) (Int.le_refl _) (by rw [hz2]; omega) (by omega)
  rw [zeros_V, ← made_one]
  simpa [hz1, Value.cells] using h
/-- So many zeros. -/
def zI (n : Nat) : List Value := List.replicate n (.int .i64 0)
theorem run_makeI (k : Nat) (hk : k ≤ 64) (u : World) : (Instr.makeSlice 32 (.int .i64 (k : Int)) (.int .i64 (k : Int))).run Try.prog u =
      .ok (.slice (some ⟨u.heap.size, 0, none⟩) k k) (u.alloc (.cells (zI k).toArray 3)) := by
  obtain ⟨i0, hi, hz0, hz1, hz2⟩ := info_parts Try.infoInt
  have h := run_make (P := Try.prog) u 32 3 i0 (.int .i64 0) Try.underlying32 hi hz0 .i64 .i64 (k : Int) (k : Int) (by omega) (Int.le_refl _) (by rw [hz2]; omega) (by omega)
  unfold zI
  rw [← made_one]
  simpa [hz1, Value.cells] using h
theorem run_makeC (k n : Nat) (hk : n ≤ 64) (u : World) : (Instr.makeSlice 54 (.int .i64 (n : Int)) (.int .i64 (n : Int))).run Try.prog u =
      .ok (.slice (some ⟨u.heap.size, 0, none⟩) n n) (u.alloc (.cells ((List.replicate n (none : Option Nat)).flatMap (ncV k)).toArray 58)) := by
  obtain ⟨i0, hi, hz0, hz1, hz2⟩ := info_parts Try.infoCell
  have h := run_make (P := Try.prog) u 54 58 i0 _ Try.underlying54 hi hz0 .i64 .i64 (n : Int) (n : Int) (by omega) (Int.le_refl _) (by rw [hz2]; omega) (by omega)
  rw [← made_flat (ncV k) 3 (ncV_len k) (by decide)]
  simpa [hz1, Value.cells, ncV] using h

/-- The slab as it is made. -/
def newS (n k : Nat) (bs : List Nat) : Sl := ⟨bs.map fun b => ⟨false, 0, b, List.replicate k 0⟩, (List.range n).map fun i => n - 1 - i⟩
/-- What New tells. -/
def Newed (n k : Nat) (w : World) (e : Ending) (w' : World) : Prop :=
  ∃ bP bC bF bs, e = .returned (.tuple #[.pointer (some ⟨bP, 0, none⟩), .int .i64 0]) ∧ bs.length = n ∧ IsSlab w' bP bC bF k (newS n k bs) ∧ Below w.heap.size w w' ∧ ∀ b, foot bP bC bF (newS n k bs) b → w.heap.size ≤ b
/-- Where New stands, so many cells having words. -/
def NewAt (n k B : Nat) (w0 w : World) (bP bC bF j : Nat) (bs : List Nat) : Prop :=
  bs.length = j ∧ Has w bP 56 [.slice (some ⟨bC, 0, none⟩) n n, .slice (some ⟨bF, 0, none⟩) n n] ∧
  Has w bC 58 ((bs.map some ++ List.replicate (n - j) none).flatMap (ncV k)) ∧
  Has w bF 3 (intsV ((List.range j).map fun i => n - 1 - i) ++ zI (n - j)) ∧
  (∀ b ∈ bs, Has w b 49 (wordsV (List.replicate k 0))) ∧ (bP :: bC :: bF :: bs).Nodup ∧ B ≤ bP ∧ B ≤ bC ∧ B ≤ bF ∧ (∀ b ∈ bs, B ≤ b) ∧ Below B w0 w

theorem new_c2 {n k B bP bC bF j : Nat} {w0 w : World} {bs : List Nat} (h : NewAt n k B w0 w bP bC bF j bs) (hj : j < n) : w.cell? ⟨bC, j * 3 + 2, none⟩ = some (.slice none 0 0) := by
  obtain ⟨e1, e2, e3, _⟩ := h
  have := e3.cell (j * 3 + 2)
  rw [flatMap_get (ncV k) 3 (ncV_len k) _ _ _ (by omega), List.getElem?_append_right (by simp [e1])] at this
  have hz : (List.replicate (n - j) (none : Option Nat))[j - (bs.map some).length]? = some none := by rw [List.length_map, e1, Nat.sub_self, List.getElem?_replicate, if_pos (by omega)]
  rw [hz] at this
  exact this
theorem new_f {n k B bP bC bF j : Nat} {w0 w : World} {bs : List Nat} (h : NewAt n k B w0 w bP bC bF j bs) (hj : j < n) : w.cell? ⟨bF, j, none⟩ = some (.int .i64 0) := by
  obtain ⟨e1, e2, e3, e4, _⟩ := h
  have := e4.cell j
  rw [List.getElem?_append_right (by simp [intsV])] at this
  rw [this]
  have : (intsV ((List.range j).map fun i => n - 1 - i)).length = j := by simp [intsV]
  rw [this, Nat.sub_self, zI, List.getElem?_replicate, if_pos (by omega)]
theorem new_step {n k B bP bC bF j : Nat} {w0 w : World} {bs : List Nat} (h : NewAt n k B w0 w bP bC bF j bs) (hj : j < n) (hB : B ≤ w.heap.size) :
    NewAt n k B w0 (((w.setCell ⟨bC, j * 3 + 2, none⟩ (.slice (some ⟨w.heap.size, 0, none⟩) k k)).setCell ⟨bF, j, none⟩ (.int .i64 ((n : Int) - 1 - (j : Int)))).alloc (.cells (wordsV (List.replicate k 0)).toArray 49)).drew bP bC bF (j + 1) (bs ++ [w.heap.size]) := by
  obtain ⟨e1, e2, e3, e4, e5, e6, e7, e8, e9, e10, e11⟩ := h
  have q1 := e3.lt
  have q2 := e4.lt
  have q3 := e2.lt
  have q5 : ∀ b ∈ bs, b < w.heap.size := fun b hb => (e5 b hb).lt
  have nd := e6
  simp only [List.nodup_cons, List.mem_cons, not_or] at nd
  obtain ⟨⟨n1, n2, n3⟩, ⟨n4, n5⟩, n6, n7⟩ := nd
  have hsz : ((w.setCell ⟨bC, j * 3 + 2, none⟩ (.slice (some ⟨w.heap.size, 0, none⟩) k k)).setCell ⟨bF, j, none⟩ (.int .i64 ((n : Int) - 1 - (j : Int)))).heap.size = w.heap.size := by simp [World.setCell]
  refine ⟨by simp [e1], ?_, ?_, ?_, ?_, ?_, e7, e8, e9, ?_, ?_⟩
  · exact (((e2.apart (p := ⟨bC, j * 3 + 2, none⟩) n1 _).apart (p := ⟨bF, j, none⟩) n2 _).alloc _).drew
  · have h1 := e3.store (j * 3 + 2) (.slice (some ⟨w.heap.size, 0, none⟩) k k)
    rw [flatMap_set (ncV k) 3 (ncV_len k) _ j 2 (by omega) none (some w.heap.size) _ (by rw [List.getElem?_append_right (by simp [e1]), List.length_map, e1, Nat.sub_self, List.getElem?_replicate, if_pos (by omega)]) rfl] at h1
    have e : (bs.map some ++ List.replicate (n - j) (none : Option Nat)).set j (some w.heap.size) = (bs ++ [w.heap.size]).map some ++ List.replicate (n - (j + 1)) none := by
      rw [List.set_append_right _ _ (by simp [e1]), List.length_map, e1, Nat.sub_self, show n - j = (n - (j + 1)) + 1 by omega, List.replicate_succ, List.set_cons_zero]
      simp
    rw [e] at h1
    exact ((h1.apart (p := ⟨bF, j, none⟩) n4 _).alloc _).drew
  · have h1 := (e4.apart (p := ⟨bC, j * 3 + 2, none⟩) (fun x => n4 x.symm) (.slice (some ⟨w.heap.size, 0, none⟩) k k)).store j (.int .i64 ((n : Int) - 1 - (j : Int)))
    have e : (intsV ((List.range j).map fun i => n - 1 - i) ++ zI (n - j)).set j (.int .i64 ((n : Int) - 1 - (j : Int))) = intsV ((List.range (j + 1)).map fun i => n - 1 - i) ++ zI (n - (j + 1)) := by
      have hl : (intsV ((List.range j).map fun i => n - 1 - i)).length = j := by simp [intsV]
      rw [List.set_append_right _ _ (by omega), hl, Nat.sub_self, show n - j = (n - (j + 1)) + 1 by omega, zI, List.replicate_succ, List.set_cons_zero, List.range_succ]
      simp [intsV, zI]
      omega
    rw [e] at h1
    exact (h1.alloc _).drew
  · intro b hb
    rcases List.mem_append.1 hb with hb | hb
    · have : b ≠ bC := fun x => n5 (x ▸ hb)
      have h2 : b ≠ bF := fun x => n6 (x ▸ hb)
      exact ((((e5 b hb).apart (p := ⟨bC, j * 3 + 2, none⟩) this _).apart (p := ⟨bF, j, none⟩) h2 _).alloc _).drew
    · have hb2 : b = w.heap.size := by simpa using hb
      subst hb2
      have := Has.made ((w.setCell ⟨bC, j * 3 + 2, none⟩ (.slice (some ⟨w.heap.size, 0, none⟩) k k)).setCell ⟨bF, j, none⟩ (.int .i64 ((n : Int) - 1 - (j : Int)))) 49 (wordsV (List.replicate k 0))
      rw [hsz] at this
      exact this.drew
  · rw [← List.cons_append, ← List.cons_append, ← List.cons_append, List.nodup_append]
    refine ⟨e6, by simp, ?_⟩
    intro a ha b hb hab
    have hb2 : b = w.heap.size := by simpa using hb
    subst hb2
    simp only [List.mem_cons] at ha
    rcases ha with ha | ha | ha | ha
    · omega
    · omega
    · omega
    · have := q5 a ha; omega
  · intro b hb
    rcases List.mem_append.1 hb with hb | hb
    · exact e10 b hb
    · have hb2 : b = w.heap.size := by simpa using hb
      omega
  · exact (((e11.setCell (p := ⟨bC, j * 3 + 2, none⟩) e8 _).setCell (p := ⟨bF, j, none⟩) e9 _).alloc (by rw [hsz]; exact hB) _).drew
theorem new_end {n k B bP bC bF : Nat} {w0 w : World} {bs : List Nat} (h : NewAt n k B w0 w bP bC bF n bs) (h1 : 1 ≤ n) (h2 : n ≤ 64) (h3 : k ≤ 32) :
    bs.length = n ∧ IsSlab w bP bC bF k (newS n k bs) ∧ Below B w0 w ∧ ∀ b, foot bP bC bF (newS n k bs) b → B ≤ b := by
  obtain ⟨e1, e2, e3, e4, e5, e6, e7, e8, e9, e10, e11⟩ := h
  have hl : (newS n k bs).cells.length = n := by simp [newS, e1]
  have hf : (newS n k bs).free.length = n := by simp [newS]
  have hb : (newS n k bs).cells.map SC.blk = bs := by simp [newS, Function.comp_def]
  refine ⟨e1, ⟨by rw [hl, hf]; exact e2, ?_, ⟨[], ?_, by rw [hl, hf]; rfl⟩, ?_, by rw [hb]; exact e6, by rw [hl]; exact h1, by rw [hl]; exact h2, h3, ?_, ?_⟩, e11, ?_⟩
  · have : (bs.map some ++ List.replicate (n - n) (none : Option Nat)).flatMap (ncV k) = flat k (newS n k bs).cells := by
      simp [flat, newS, List.flatMap_map, Nat.sub_self]
      rfl
    rw [← this]; exact e3
  · rw [Nat.sub_self] at e4; exact e4
  · intro c hc
    simp only [newS, List.mem_map] at hc
    obtain ⟨b, hb1, rfl⟩ := hc
    exact ⟨e5 b hb1, by simp, by intro x hx; simp at hx; omega⟩
  · intro i hi
    rw [hl]
    simp [newS] at hi
    omega
  · intro c hc
    simp only [newS, List.mem_map] at hc
    obtain ⟨b, hb1, rfl⟩ := hc
    exact Nat.zero_le _
  · intro b hb1
    rcases hb1 with rfl | rfl | rfl | ⟨c, hc, rfl⟩
    · exact e7
    · exact e8
    · exact e9
    · simp only [newS, List.mem_map] at hc
      obtain ⟨b, hb1, rfl⟩ := hc
      exact e10 b hb1
theorem new_start (n k : Nat) (w : World) :
    NewAt n k w.heap.size w (((w.alloc (.cells ((List.replicate n (none : Option Nat)).flatMap (ncV k)).toArray 58)).alloc (.cells (zI n).toArray 3)).alloc (.cells #[.slice (some ⟨w.heap.size, 0, none⟩) n n, .slice (some ⟨w.heap.size + 1, 0, none⟩) n n] 56)).drew (w.heap.size + 1 + 1) w.heap.size (w.heap.size + 1) 0 [] ∧
    NewAt n k w.heap.size w (((w.alloc (.cells (zI n).toArray 3)).alloc (.cells ((List.replicate n (none : Option Nat)).flatMap (ncV k)).toArray 58)).alloc (.cells #[.slice (some ⟨w.heap.size + 1, 0, none⟩) n n, .slice (some ⟨w.heap.size, 0, none⟩) n n] 56)).drew (w.heap.size + 1 + 1) (w.heap.size + 1) w.heap.size 0 [] := by
  have hb : ∀ o1 o2 o3, Below w.heap.size w (((w.alloc o1).alloc o2).alloc o3).drew := fun o1 o2 o3 => ((((Below.refl _ _).alloc (Nat.le_refl _) _).alloc (by simp) _).alloc (by simp; omega) _).drew
  have s1 : ∀ o : Obj, (w.alloc o).heap.size = w.heap.size + 1 := fun o => by simp
  have s2 : ∀ o1 o2 : Obj, ((w.alloc o1).alloc o2).heap.size = w.heap.size + 1 + 1 := fun o1 o2 => by simp
  have f1 : ∀ t l o2 o3, Has (((w.alloc (.cells l.toArray t)).alloc o2).alloc o3) w.heap.size t l := fun t l o2 o3 => ((Has.made w t l).alloc o2).alloc o3
  have f2 : ∀ o1 t l o3, Has (((w.alloc o1).alloc (.cells l.toArray t)).alloc o3) (w.heap.size + 1) t l := fun o1 t l o3 => by
    have := (Has.made (w.alloc o1) t l).alloc o3
    rwa [s1] at this
  have f3 : ∀ o1 o2 t l, Has (((w.alloc o1).alloc o2).alloc (.cells l.toArray t)) (w.heap.size + 1 + 1) t l := fun o1 o2 t l => by
    have := Has.made ((w.alloc o1).alloc o2) t l
    rwa [s2] at this
  refine ⟨⟨rfl, f3 _ _ _ [_, _], f1 _ _ _ _, f2 _ _ _ _, by simp, by simp; omega, by omega, by omega, by omega, by simp, hb _ _ _⟩, ⟨rfl, f3 _ _ _ [_, _], f2 _ _ _ _, f1 _ _ _ _, by simp, by simp; omega, by omega, by omega, by omega, by simp, hb _ _ _⟩⟩

set_option maxRecDepth 100000 in
set_option maxHeartbeats 1000000 in
theorem New_yes (n k : Nat) (w : World) (h1 : 1 ≤ n) (h2 : n ≤ 64) (h3 : k ≤ 32) :
    Calls Try.prog 11 #[.int .i64 n, .int .i64 k] w (Newed n k w) := by
  have m1 := run_makeI n h2
  have m2 := run_makeC k n h2
  have m3 := run_makeW k h3
  obtain ⟨a1, a2⟩ := new_start n k w
  have A1 := Lib.hid a1
  have A2 := Lib.hid a2
  clear a1 a2
  generalize ((List.replicate n (none : Option Nat)).flatMap (ncV k)).toArray = zc at *
  go_enter Try.func11, Try.ntmps11
  go_wp2
  go_region
  all_goals
    go_wp2
    go_loopw [29] (fun i wr => ∃ (j bC bF : Nat) (bs : List Nat), j ≤ n ∧ i = .int .i64 (j : Int) ∧ NewAt n k w.heap.size w wr (w.heap.size + 1 + 1) bC bF j bs) (fun i _ => n - (intOf i).toNat)
    case atStart => first | exact ⟨0, _, _, [], Nat.zero_le _, rfl, A1.out⟩ | exact ⟨0, _, _, [], Nat.zero_le _, rfl, A2.out⟩
    case round =>
      obtain ⟨j, bC, bF, bs, hj, rfl, hN⟩ := hrel
      clear A1 A2
      have HN := Lib.hid hN
      obtain ⟨e1, e2, e3, e4, e5, e6, e7, e8, e9, e10, e11⟩ := hN
      by_cases hlt : j < n
      · have p0 := e2.cell 0
        have HSZ := Lib.hid (show w.heap.size ≤ wr.heap.size from e11.size)
        have p1 := e2.cell 1
        have c2 := new_c2 HN.out hlt
        have cf := new_f HN.out hlt
        have l1 := e3.loose (j * 3 + 2)
        have l2 := e4.loose j
        have q1 := e3.lt
        have q2 := e4.lt
        have q3 := e2.lt
        have hne : bC ≠ bF ∧ w.heap.size + 1 + 1 ≠ bC ∧ w.heap.size + 1 + 1 ≠ bF := by simp at e6; omega
        obtain ⟨hne1, hne2, hne3⟩ := hne
        clear e1 e2 e3 e4 e5 e6 e7 e8 e9 e10 e11
        generalize w.heap.size + 1 + 1 = bP at *
        simp at p0 p1
        go_wp2
        go_region
        all_goals go_wp2
        all_goals exact ⟨⟨j + 1, bC, bF, _, by omega, by go_num, new_step HN.out hlt HSZ.out⟩, by simp [intOf]; omega⟩
      · have R : Hid (Newed n k w (.returned (.tuple #[.pointer (some ⟨w.heap.size + 1 + 1, 0, none⟩), .int .i64 0])) wr) := by
          have hjn : j = n := by omega
          rw [hjn] at HN
          obtain ⟨r1, r2, r3, r4⟩ := new_end HN.out h1 h2 h3
          exact ⟨_, bC, bF, bs, rfl, r1, r2, r3, r4⟩
        clear e1 e2 e3 e4 e5 e6 e7 e8 e9 e10 e11
        go_wp2
        go_ret2
        exact R.out
end Go.Proofs.Ytbmapjbjpgoibaa
