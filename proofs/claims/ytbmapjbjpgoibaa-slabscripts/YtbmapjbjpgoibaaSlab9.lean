/- Lists of handles that a law keeps; the row of free cells, as cells are taken, given and taken again. -/
import Derived.Test.YtbmapjbjpgoibaaSlab8
import Derived.Test.YtbmapjbjpgoibaaOpen
import Derived.Deep.AppendLies
namespace Go.Proofs.Ytbmapjbjpgoibaa
open Go.ChangeShapes Go.WideShapes Go.ChangeAt Go.RowKit
set_option linter.unusedVariables false

/-- A list of numbers of a law's own, outside of the slab's blocks. -/
def Giv (FT : Nat → Prop) (B : Nat) (w : World) (v : Value) (G : List Int) : Prop :=
  w.ownsRow B 3 1 v G.length (G.map (Value.int .i64)) ∧ (v = .slice none 0 0 ↔ G = []) ∧ ∀ b, v.ownBlock = some b → ¬ FT b
theorem Giv.nil (FT : Nat → Prop) (B : Nat) (w : World) : Giv FT B w (.slice none 0 0) [] := ⟨World.ownsRow_nil _ _ _ _, by simp, fun b hb => by simp [Value.ownBlock] at hb⟩
theorem ownsRow_kept {F : Nat → Prop} {w w' : World} {base : Nat} {e : TypeId} {size : Nat} {v : Value} {n : Nat} {xs : List Value} (h : w.ownsRow base e size v n xs) (hk : Kept F w w') (hF : ∀ b, v.ownBlock = some b → ¬ F b) : w'.ownsRow base e size v n xs := by
  obtain ⟨h1, h2 | ⟨g, cap, cur, rfl, hb, hh, h3⟩⟩ := h
  · exact ⟨h1, .inl h2⟩
  · have hlt : g < w.heap.size := by
      rcases Nat.lt_or_ge g w.heap.size with hlt | hge
      · exact hlt
      · rw [Array.getElem?_eq_none hge] at hh; cases hh
    exact ⟨h1, .inr ⟨g, cap, cur, rfl, hb, (hk.block g hlt (hF g rfl)).trans hh, h3⟩⟩
theorem Giv.kept {FT F : Nat → Prop} {B : Nat} {w w' : World} {v : Value} {G : List Int} (h : Giv FT B w v G) (hk : Kept F w w') (hF : ∀ b, F b → FT b) : Giv FT B w' v G :=
  ⟨ownsRow_kept h.1 hk (fun b hb hf => h.2.2 b hb (hF b hf)), h.2⟩
theorem Giv.below {FT : Nat → Prop} {B : Nat} {w w' : World} {v : Value} {G : List Int} (h : Giv FT B w v G) (hk : Below w.heap.size w w') : Giv FT B w' v G :=
  ⟨ownsRow_kept h.1 (Kept.of_below (F := fun _ => False) hk) (fun _ _ => id), h.2⟩
/-- Its cells. -/
theorem Giv.cells {FT : Nat → Prop} {B : Nat} {w : World} {v : Value} {G : List Int} (h : Giv FT B w v G) :
    ∃ A cap, v = .slice A G.length cap ∧ G.length ≤ cap ∧ ∀ (i : Nat) z, G[i]? = some z → ∃ g, A = some ⟨g, 0, none⟩ ∧ w.cell? ⟨g, i, none⟩ = some (.int .i64 z) := by
  obtain ⟨A, cap, h1, h2, _, _, h3⟩ := ints_of_row h.1 h.2.1
  exact ⟨A, cap, h1, h2, h3⟩
/-- One more. -/
theorem Giv.more {FT : Nat → Prop} {B : Nat} {w w1 : World} {v : Value} {G : List Int} {z : Int} {g cap : Nat} {tmp : Obj} (h : Giv FT B w v G) (hFT : ∀ b, FT b → b < w.heap.size)
    (hown : w1.ownsRow B 3 1 (.slice (some ⟨g, 0, none⟩) (G.length + 1) cap) (G.length + 1) (G.map (Value.int .i64) ++ [.int .i64 z])) (hat : v.ownBlock = some g ∨ w.heap.size ≤ g) : Giv FT B w1 (.slice (some ⟨g, 0, none⟩) (G.length + 1) cap) (G ++ [z]) := by
  refine ⟨by simpa using hown, by simp, fun b hb => ?_⟩
  have : b = g := by simpa [Value.ownBlock] using hb.symm
  subst this
  rcases hat with hat | hat
  · exact h.2.2 b hat
  · intro hf; have := hFT b hf; omega

/-- 'l = append(l, z)' of a law's own list: as a step of the walk. -/
theorem wpList_append_giv {FT : Nat → Prop} {B : Nat} (w : World) {ops : Array Oper} {rest : List Oper} {o : Oper} {a : Act} {Q : Exit → Act → World → Prop} (hgd : o.guard = none) (s x : Operand)
    (ho : o.op = .call { callee := .builtin .append, args := #[s, x], argTypes := #[32, 32] }) (v : Value) (G : List Int) (z : Int) (hs : a.eval s = v) (hx : a.eval x = .slice (some ⟨w.heap.size, 0, none⟩) 1 1)
    (hG : Giv FT B w v G) (hFT : ∀ b, FT b → b < w.heap.size) (hB : B ≤ w.heap.size) (hlen : G.length ≤ 1000)
    (h : ∀ g cap w', Giv FT B w' (.slice (some ⟨g, 0, none⟩) (G.length + 1) cap) (G ++ [z]) → Kept (fun b => ¬ FT b ∧ B ≤ b) w w' → wpList Try.prog ops Q rest (a.put o.dst (.slice (some ⟨g, 0, none⟩) (G.length + 1) cap)) w') :
    wpList Try.prog ops Q (o :: rest) a (w.alloc (.cells #[.int .i64 z] 3)) := by
  obtain ⟨i0, hi, hz0, hz1, hz2⟩ := info_parts Try.infoInt
  refine wpList_append_lies _ hgd s x 32 ho B 3 i0 (.int .i64 0) 1 8 Try.underlying32 hi hz0 hz1 hz2 rfl (by decide) v G.length _ hs (hG.1.alloc _) ⟨w.heap.size, 0, none⟩ 1 1 [.int .i64 z] hx rfl (cell_one_new _ _ _) (by intro u hu; rw [List.mem_singleton.1 hu]; rfl) (by decide) (by unfold maxLen; omega) (by omega) (by simp; omega) (w.heap.size + 1) (by simp) ?_
  intro g cap w' hown hgrow hat hlt
  have hob : ∀ b, v.ownBlock = some b → B ≤ b := fun b hb => by
    rcases hG.1.2 with ⟨rfl, _⟩ | ⟨g, cap, cur, rfl, hg, _⟩
    · simp [Value.ownBlock] at hb
    · have : b = g := by simpa [Value.ownBlock] using hb.symm
      omega
  refine h g cap w' (hG.more (tmp := .cells #[.int .i64 z] 3) hFT hown (hat.imp id (fun e => by omega))) ?_
  refine (Kept.refl (fun b => ¬ FT b ∧ B ≤ b) w).alloc (.cells #[.int .i64 z] 3) |>.grown hgrow (fun g hg => .inl ⟨hG.2.2 g hg, hob g hg⟩)

/-- n - 1 down to t. -/
def down (n t : Nat) : List Nat := (List.range (n - t)).map fun i => n - 1 - i
theorem down_snoc {n t : Nat} (h : t < n) : down n t = down n (t + 1) ++ [t] := by
  unfold down
  rw [show n - t = (n - (t + 1)) + 1 by omega, List.range_succ, List.map_append]
  simp
  omega
theorem down_nil (n : Nat) : down n n = [] := by simp [down]
theorem down_len (n t : Nat) : (down n t).length = n - t := by simp [down]
theorem down_mem {n t x : Nat} (h : x ∈ down n t) : t ≤ x ∧ x < n := by
  simp [down] at h
  omega
/-- Of n cells the first t were taken, those of G were given since, in this order, and all but the first m of them taken again. -/
structure RowSt (s : Sl) (n t : Nat) (G : List Nat) (m : Nat) : Prop where
  len : s.cells.length = n
  fr : s.free = down n t ++ G.take m
  nd : G.Nodup
  lt : ∀ g ∈ G, g < t
  tn : t ≤ n
  at_ : ∀ i c, s.cells[i]? = some c → c.gen = (if i ∈ G then 1 else 0) ∧ (c.taken = true ↔ i < t ∧ i ∉ G.take m)
theorem RowSt.new (n k : Nat) (bs : List Nat) (hl : bs.length = n) : RowSt (newS n k bs) n 0 [] 0 := by
  refine ⟨by simp [newS, hl], by simp [newS, down], List.nodup_nil, by simp, Nat.zero_le _, fun i c hc => ?_⟩
  simp only [newS, List.getElem?_map, Option.map_eq_some_iff] at hc
  obtain ⟨b, _, rfl⟩ := hc
  simp
theorem RowSt.cell {s : Sl} {n t m : Nat} {G : List Nat} (h : RowSt s n t G m) {i : Nat} (hi : i < n) : ∃ c, s.cells[i]? = some c := ⟨_, List.getElem?_eq_getElem (by rw [h.len]; exact hi)⟩
theorem RowSt.take1 {s : Sl} {n j : Nat} (h : RowSt s n j [] 0) (hj : j < n) (ws : List Nat) : ∃ c, s.cells[j]? = some c ∧ c.gen = 0 ∧ s.free = down n (j + 1) ++ [j] ∧ RowSt (s.put j { c with taken := true, ws := ws } (down n (j + 1))) n (j + 1) [] 0 := by
  obtain ⟨c, hc⟩ := h.cell hj
  have hg := (h.at_ j c hc).1
  simp at hg
  have hi : j < s.cells.length := (List.getElem?_eq_some_iff.1 hc).1
  refine ⟨c, hc, hg, by rw [h.fr, down_snoc hj]; simp, by rw [put_len]; exact h.len, by simp [Sl.put], List.nodup_nil, by simp, hj, fun i d hd => ?_⟩
  rw [getElem?_put hi] at hd
  by_cases e : j = i
  · rw [if_pos e] at hd
    injection hd with hd
    subst hd
    subst e
    simp [hg]
  · rw [if_neg e] at hd
    have := h.at_ i d hd
    simp at this ⊢
    exact ⟨this.1, this.2.trans (by omega)⟩
theorem RowSt.find_no {s : Sl} {n t p : Nat} {G : List Nat} (h : RowSt s n t G G.length) (h64 : n ≤ 64) (hp : p < t) (hm : p ∈ G) : s.find (p : Int) = none := by
  have htn := h.tn
  obtain ⟨c, hc⟩ := h.cell (i := p) (by omega)
  have h2 := (h.at_ p c hc).2
  rw [List.take_length] at h2
  have ht : c.taken = false := by
    cases hh : c.taken with
    | false => rfl
    | true => exact absurd hm (h2.1 hh).2
  unfold Sl.find
  rw [if_neg (by omega), show ((p : Int) % 64).toNat = p by omega, hc]
  simp [ht]
theorem RowSt.give {s : Sl} {n t p : Nat} {G : List Nat} (h : RowSt s n t G G.length) (h64 : n ≤ 64) (hp : p < t) (hm : p ∉ G) :
    ∃ c, s.find (p : Int) = some p ∧ s.cells[p]? = some c ∧ c.gen = 0 ∧ s.free.length < s.cells.length ∧ RowSt (s.put p { c with taken := false, gen := c.gen + 1 } (s.free ++ [p])) n t (G ++ [p]) (G ++ [p]).length := by
  have htn := h.tn
  obtain ⟨c, hc⟩ := h.cell (i := p) (by omega)
  obtain ⟨h1, h2⟩ := h.at_ p c hc
  rw [List.take_length] at h2
  rw [if_neg hm] at h1
  have ht : c.taken = true := h2.2 ⟨hp, hm⟩
  have hi : p < s.cells.length := (List.getElem?_eq_some_iff.1 hc).1
  have hlen := nodup_len t (p :: G) (List.nodup_cons.2 ⟨hm, h.nd⟩) (fun x hx => by
    rcases List.mem_cons.1 hx with rfl | hx
    · exact hp
    · exact h.lt x hx)
  simp at hlen
  refine ⟨c, ?_, hc, h1, ?_, by rw [put_len]; exact h.len, ?_, ?_, ?_, h.tn, fun i d hd => ?_⟩
  · unfold Sl.find
    rw [if_neg (by omega), show ((p : Int) % 64).toNat = p by omega, hc]
    simp only
    rw [if_pos ⟨ht, by rw [h1]; omega⟩]
  · rw [h.fr, h.len, List.length_append, down_len, List.take_length]; omega
  · rw [List.take_length]
    show s.free ++ [p] = _
    rw [h.fr, List.take_length, List.append_assoc]
  · rw [List.nodup_append]
    exact ⟨h.nd, by simp, fun a ha b hb e => hm ((e.trans (List.mem_singleton.1 hb)) ▸ ha)⟩
  · intro g hg
    rcases List.mem_append.1 hg with hg | hg
    · exact h.lt g hg
    · rw [List.mem_singleton.1 hg]; exact hp
  · rw [getElem?_put hi] at hd
    rw [List.take_length]
    by_cases e : p = i
    · rw [if_pos e] at hd
      injection hd with hd
      subst hd
      subst e
      simp [h1]
    · rw [if_neg e] at hd
      have := h.at_ i d hd
      rw [List.take_length] at this
      simp [show ¬ i = p from fun x => e x.symm]
      exact this
theorem RowSt.take3 {s : Sl} {n t m : Nat} {G : List Nat} (h : RowSt s n t G (m + 1)) (hm : m < G.length) (ws : List Nat) :
    ∃ c, s.cells[G[m]]? = some c ∧ c.gen = 1 ∧ s.free = (down n t ++ G.take m) ++ [G[m]] ∧ RowSt (s.put G[m] { c with taken := true, ws := ws } (down n t ++ G.take m)) n t G m := by
  have htn := h.tn
  have hmem : G[m] ∈ G := List.getElem_mem hm
  have hlt := h.lt _ hmem
  obtain ⟨c, hc⟩ := h.cell (i := G[m]) (by omega)
  obtain ⟨h1, h2⟩ := h.at_ _ c hc
  rw [if_pos hmem] at h1
  have hi : G[m] < s.cells.length := (List.getElem?_eq_some_iff.1 hc).1
  have htk : G.take (m + 1) = G.take m ++ [G[m]] := List.take_succ_eq_append_getElem hm
  have hnm : G[m] ∉ G.take m := fun hx => by
    obtain ⟨i, hi1, hi2⟩ := List.getElem_of_mem hx
    have hil : i < m := by rw [List.length_take] at hi1; omega
    rw [List.getElem_take] at hi2
    have pw := List.pairwise_iff_getElem.1 h.nd
    exact pw i m (by omega) hm hil hi2
  refine ⟨c, hc, h1, by rw [h.fr, htk, List.append_assoc], by rw [put_len]; exact h.len, rfl, h.nd, h.lt, h.tn, fun i d hd => ?_⟩
  rw [getElem?_put hi] at hd
  by_cases e : G[m] = i
  · rw [if_pos e] at hd
    injection hd with hd
    subst hd
    subst e
    exact ⟨by rw [if_pos hmem]; exact h1, ⟨fun _ => ⟨hlt, hnm⟩, fun _ => rfl⟩⟩
  · rw [if_neg e] at hd
    have := h.at_ i d hd
    refine ⟨this.1, this.2.trans ?_⟩
    rw [htk, List.mem_append, List.mem_singleton]
    exact ⟨fun x => ⟨x.1, fun y => x.2 (.inl y)⟩, fun x => ⟨x.1, fun y => y.elim x.2 (fun z => e z.symm)⟩⟩
theorem RowSt.last {s : Sl} {n t : Nat} {G : List Nat} (h : RowSt s n t G 0) (ht : t < n) : ∃ c, s.cells[t]? = some c ∧ c.gen = 0 ∧ s.free = down n (t + 1) ++ [t] := by
  obtain ⟨c, hc⟩ := h.cell ht
  have h1 := (h.at_ t c hc).1
  rw [if_neg (fun hm => by have := h.lt t hm; omega)] at h1
  exact ⟨c, hc, h1, by rw [h.fr, down_snoc ht]; simp⟩
end Go.Proofs.Ytbmapjbjpgoibaa
