/- What was read of the cells that are taken, kept in a list. -/
import Derived.Test.YtbmapjbjpgoibaaSlab12
namespace Go.Proofs.Ytbmapjbjpgoibaa
open Go.ChangeShapes Go.WideShapes Go.ChangeAt Go.RowKit
set_option linter.unusedVariables false

theorem taken_yes (s : Sl) (j : Nat) : ∀ p ∈ takenTo s j, p.1.2.taken = true := by
  induction j with
  | zero => intro p hp; simp [takenTo] at hp
  | succ j ih =>
    intro p hp
    cases h : s.cells[j]? with
    | none =>
      rw [takenTo] at hp
      split at hp
      · rename_i c' h'; rw [h] at h'; cases h'
      · exact ih p hp
    | some c =>
      cases ht : c.taken with
      | true =>
        rw [takenTo_yes h ht] at hp
        rcases List.mem_append.1 hp with hp | hp
        · exact ih p hp
        · rw [List.mem_singleton.1 hp]; exact ht
      | false => rw [takenTo_no h ht] at hp; exact ih p hp
/-- A handle that is told is good. -/
theorem live_find {s : Sl} (hn : s.cells.length ≤ 64) {z : Int} (hz : z ∈ s.live) : ∃ i c, s.find z = some i ∧ s.cells[i]? = some c := by
  unfold Sl.live at hz
  obtain ⟨p, hp, rfl⟩ := List.mem_map.1 hz
  have h1 := taken_lt s _ p hp
  have h2 := taken_yes s _ p hp
  have hmod := hdl_mod (p := p.1) (by omega)
  have hnn : 0 ≤ hdl p.1 := by unfold hdl; omega
  refine ⟨p.1.1, p.1.2, ?_, p.2⟩
  unfold Sl.find
  rw [if_neg (by omega), show (hdl p.1 % 64).toNat = p.1.1 by omega, p.2]
  simp only
  rw [if_pos ⟨h2, by rw [hmod]; rfl⟩]

/-- A value that is a slice of these words, in new memory. -/
def WasAt (B : Nat) (w : World) (k : Nat) (v : Value) (ns : List Nat) : Prop :=
  ∃ A cap, v = .slice A k cap ∧ k ≤ cap ∧ ns.length = k ∧ AllW ns ∧ ((A = none ∧ k = 0) ∨ ∃ g, A = some ⟨g, 0, none⟩ ∧ B ≤ g ∧ OwnW w g k ns)
theorem WasAt.words {B : Nat} {w : World} {k : Nat} {v : Value} {ns : List Nat} (h : WasAt B w k v ns) : ∃ A cap, v = .slice A k cap ∧ k ≤ cap ∧ Words w A k ns := by
  obtain ⟨A, cap, rfl, h1, h2, h3, h4⟩ := h
  refine ⟨A, cap, rfl, h1, ?_⟩
  rcases h4 with ⟨rfl, rfl⟩ | ⟨g, rfl, _, ho⟩
  · exact ⟨h2, h3, fun h => absurd h (by omega)⟩
  · exact ho.words
theorem WasAt.kept {B : Nat} {w w' : World} {k : Nat} {v : Value} {ns : List Nat} {F : Nat → Prop} (h : WasAt B w k v ns) (hk : Kept F w w') (hF : ∀ g len l, B ≤ g → OwnW w g len l → ¬ F g) : WasAt B w' k v ns := by
  obtain ⟨A, cap, rfl, h1, h2, h3, h4⟩ := h
  refine ⟨A, cap, rfl, h1, h2, h3, ?_⟩
  rcases h4 with h4 | ⟨g, rfl, hg, ho⟩
  · exact .inl h4
  · exact .inr ⟨g, rfl, hg, ho.kept hk (hF g _ _ hg ho)⟩
theorem WasAt.below {B : Nat} {w w' : World} {k : Nat} {v : Value} {ns : List Nat} (h : WasAt B w k v ns) (hb : Below w.heap.size w w') : WasAt B w' k v ns :=
  h.kept (F := fun _ => False) (Kept.of_below hb) (fun _ _ _ _ _ => id)
theorem WasAt.of_read {B : Nat} {w w' : World} {ns : List Nat} {e : Ending} (h : ReadTold ns w e w') (hB : B ≤ w.heap.size) : ∃ v, e = .returned (.tuple #[v, .int .i64 0]) ∧ WasAt B w' ns.length v ns ∧ Below w.heap.size w w' := by
  obtain ⟨A, cap, rfl, ⟨h1, h2, h3, h4⟩, hb⟩ := h
  refine ⟨_, rfl, ⟨A, cap, rfl, h1, rfl, h3, ?_⟩, hb⟩
  rcases h4 with h4 | ⟨g, e, hg, ho⟩
  · exact .inl h4
  · exact .inr ⟨g, e, Nat.le_trans hB hg, ho⟩

/-- What was read of the first q of these handles. -/
def WasI (B : Nat) (w : World) (k : Nat) (s : Sl) (lv : List Int) (v3 : Value) (q : Nat) : Prop :=
  ∃ vs : List Value, vs.length = q ∧ w.ownsRow B 33 1 v3 q vs ∧ (v3 = .slice none 0 0 ↔ q = 0) ∧
    ∀ (i : Nat) (v : Value) (z : Int), vs[i]? = some v → lv[i]? = some z → ∃ idx c, s.find z = some idx ∧ s.cells[idx]? = some c ∧ WasAt B w k v c.ws
theorem WasI.nil (B : Nat) (w : World) (k : Nat) (s : Sl) (lv : List Int) : WasI B w k s lv (.slice none 0 0) 0 :=
  ⟨[], rfl, World.ownsRow_nil _ _ _ _, by simp, fun i v z h => by simp at h⟩
theorem own_ge {w : World} {B n : Nat} {e : TypeId} {v : Value} {xs : List Value} (h : w.ownsRow B e 1 v n xs) {b : Nat} (hb : v.ownBlock = some b) : B ≤ b ∧ ∃ cs, w.heap[b]? = some (.cells cs e (0, 0)) := by
  rcases h.2 with ⟨rfl, _⟩ | ⟨g, cap, cur, rfl, hg, hh, _⟩
  · simp [Value.ownBlock] at hb
  · have : b = g := by simpa [Value.ownBlock] using hb.symm
    subst this
    exact ⟨hg, cur, hh⟩
theorem WasI.below {B : Nat} {w w' : World} {k : Nat} {s : Sl} {lv : List Int} {v3 : Value} {q : Nat} (h : WasI B w k s lv v3 q) (hb : Below w.heap.size w w') : WasI B w' k s lv v3 q := by
  obtain ⟨vs, h1, h2, h3, h4⟩ := h
  refine ⟨vs, h1, ownsRow_kept h2 (Kept.of_below (F := fun _ => False) hb) (fun _ _ => id), h3, fun i v z hv hz => ?_⟩
  obtain ⟨idx, c, f1, f2, f3⟩ := h4 i v z hv hz
  exact ⟨idx, c, f1, f2, f3.below hb⟩
theorem WasI.kept {FT : Nat → Prop} {B : Nat} {w w' : World} {k : Nat} {s : Sl} {lv : List Int} {v3 : Value} {q : Nat} (h : WasI B w k s lv v3 q) (hk : Kept FT w w') (hF : ∀ b, FT b → b < B) : WasI B w' k s lv v3 q := by
  obtain ⟨vs, h1, h2, h3, h4⟩ := h
  refine ⟨vs, h1, ownsRow_kept h2 hk (fun b hb hf => by have := hF b hf; have := (own_ge h2 hb).1; omega), h3, fun i v z hv hz => ?_⟩
  obtain ⟨idx, c, f1, f2, f3⟩ := h4 i v z hv hz
  exact ⟨idx, c, f1, f2, f3.kept hk (fun g _ _ hg _ hf => by have := hF g hf; omega)⟩
/-- One more. -/
theorem WasI.more {B : Nat} {w w1 : World} {k : Nat} {s : Sl} {lv : List Int} {v3 v : Value} {q g cap : Nat} {z : Int} {idx : Nat} {c : SC} {tmp : Obj} (h : WasI B w k s lv v3 q) (hz : lv[q]? = some z) (hf : s.find z = some idx) (hc : s.cells[idx]? = some c) (hv : WasAt B w k v c.ws)
    (hsz : B ≤ w.heap.size) (vs : List Value) (hvs : vs.length = q) (hold : w.ownsRow B 33 1 v3 q vs) (hall : ∀ (i : Nat) (v : Value) (z : Int), vs[i]? = some v → lv[i]? = some z → ∃ idx c, s.find z = some idx ∧ s.cells[idx]? = some c ∧ WasAt B w k v c.ws)
    (hown : w1.ownsRow B 33 1 (.slice (some ⟨g, 0, none⟩) (q + 1) cap) (q + 1) (vs ++ [v])) (hgrow : (w.alloc tmp).grownBy w1 v3.ownBlock) :
    WasI B w1 k s lv (.slice (some ⟨g, 0, none⟩) (q + 1) cap) (q + 1) ∧ Below B w w1 := by
  have hK : Kept (fun b => v3.ownBlock = some b) w w1 := ((Kept.refl (fun b => v3.ownBlock = some b) w).alloc tmp).grown hgrow (fun g hg => .inl hg)
  have hne : ∀ g len l, B ≤ g → OwnW w g len l → ¬ v3.ownBlock = some g := fun g len l hg ho hb => by
    obtain ⟨_, cs, hcs⟩ := own_ge hold hb
    obtain ⟨l', hh, _⟩ := ho
    unfold Has at hh
    rw [hcs] at hh
    injection hh with hh
    injection hh with _ hh
    exact absurd hh (by decide)
  refine ⟨⟨vs ++ [v], by simp [hvs], hown, by simp, fun i u y hu hy => ?_⟩, hK.below hsz (fun b hb hf => by have := (own_ge hold hf).1; omega)⟩
  by_cases hi : i < q
  · rw [List.getElem?_append_left (by omega)] at hu
    obtain ⟨idx', c', f1, f2, f3⟩ := hall i u y hu hy
    exact ⟨idx', c', f1, f2, f3.kept hK (fun g len l hg ho => hne g len l hg ho)⟩
  · have : i = q := by
      have := (List.getElem?_eq_some_iff.1 hu).1
      simp at this
      omega
    subst this
    rw [List.getElem?_append_right (by omega), hvs, Nat.sub_self] at hu
    simp at hu
    subst hu
    rw [hz] at hy
    injection hy with hy
    subst hy
    exact ⟨idx, c, hf, hc, hv.kept hK (fun g len l hg ho => hne g len l hg ho)⟩
theorem Try.infoS : (Try.prog.info? 33).map (fun i => (i.zero, i.size, i.bytes)) = some (some (.slice none 0 0), 1, 24) := by kernel_rfl
/-- 'was = append(was, w)': as a step of the walk. -/
theorem wpList_append_was {B : Nat} (w : World) {ops : Array Oper} {rest : List Oper} {o : Oper} {a : Act} {Q : Exit → Act → World → Prop} (hgd : o.guard = none) (sO x : Operand)
    (ho : o.op = .call { callee := .builtin .append, args := #[sO, x], argTypes := #[48, 48] }) {k : Nat} {s : Sl} {lv : List Int} {v3 v : Value} {q : Nat} {z : Int} {idx : Nat} {c : SC} (hs : a.eval sO = v3) (hx : a.eval x = .slice (some ⟨w.heap.size, 0, none⟩) 1 1)
    (h : WasI B w k s lv v3 q) (hz : lv[q]? = some z) (hf : s.find z = some idx) (hc : s.cells[idx]? = some c) (hv : WasAt B w k v c.ws) (hsz : B ≤ w.heap.size) (hlen : q ≤ 1000)
    (hK : ∀ g cap w', WasI B w' k s lv (.slice (some ⟨g, 0, none⟩) (q + 1) cap) (q + 1) → Below B w w' → wpList Try.prog ops Q rest (a.put o.dst (.slice (some ⟨g, 0, none⟩) (q + 1) cap)) w') :
    wpList Try.prog ops Q (o :: rest) a (w.alloc (.cells #[v] 33)) := by
  obtain ⟨i0, hi, hz0, hz1, hz2⟩ := info_parts Try.infoS
  obtain ⟨vs, h1, h2, h3, h4⟩ := h
  refine wpList_append_lies _ hgd sO x 48 ho B 33 i0 (.slice none 0 0) 1 24 Try.underlying48 hi hz0 hz1 hz2 rfl (by decide) v3 q _ hs (h2.alloc _) ⟨w.heap.size, 0, none⟩ 1 1 [v] hx rfl (cell_one_new _ _ _) (by intro u hu; rw [List.mem_singleton.1 hu]; obtain ⟨A, cp, rfl, _⟩ := hv; rfl) (by decide) (by unfold maxLen; omega) (by omega) (by simp; omega) (w.heap.size + 1) (by simp) ?_
  intro g cap w' hown hgrow hat hlt
  obtain ⟨r1, r2⟩ := WasI.more ⟨vs, h1, h2, h3, h4⟩ hz hf hc hv hsz vs h1 h2 h4 hown hgrow
  exact hK g cap w' r1 r2
theorem find_write {s : Sl} {i : Nat} {c : SC} {ns : List Nat} (hc : s.cells[i]? = some c) (z : Int) : (s.put i { c with ws := ns } s.free).find z = s.find z := by
  have hi : i < s.cells.length := (List.getElem?_eq_some_iff.1 hc).1
  unfold Sl.find
  by_cases h : z < 0
  · rw [if_pos h, if_pos h]
  · rw [if_neg h, if_neg h, getElem?_put hi]
    by_cases e : i = (z % 64).toNat
    · rw [if_pos e, ← e, hc]
    · rw [if_neg e]
theorem find_one {s : Sl} {y z : Int} {i : Nat} (hy : s.find y = some i) (hz : s.find z = some i) : y = z := by
  obtain ⟨m, c, rfl, _, _, hc, _, h1⟩ := Sl.find_some hy
  obtain ⟨m', c', rfl, _, _, hc', _, h2⟩ := Sl.find_some hz
  rw [hc] at hc'
  injection hc' with e
  subst e
  omega
/-- What lies at a place of the list. -/
theorem WasI.at_ {B : Nat} {w : World} {k : Nat} {s : Sl} {lv : List Int} {v3 : Value} {q : Nat} (h : WasI B w k s lv v3 q) (h0 : 0 < q) :
    ∃ g cap, v3 = .slice (some ⟨g, 0, none⟩) q cap ∧ q ≤ cap ∧ ∀ i z, i < q → lv[i]? = some z → ∃ v idx c, w.cell? ⟨g, i, none⟩ = some v ∧ s.find z = some idx ∧ s.cells[idx]? = some c ∧ WasAt B w k v c.ws := by
  obtain ⟨vs, h1, h2, h3, h4⟩ := h
  rcases h2.2 with ⟨e, _⟩ | ⟨g, cap, cur, rfl, hg, hh, hc, _, hz, ht⟩
  · have := h3.1 e; omega
  · refine ⟨g, cap, rfl, hc, fun i z hi hzz => ?_⟩
    have hv : vs[i]? = some vs[i] := List.getElem?_eq_getElem (by omega)
    obtain ⟨idx, c, f1, f2, f3⟩ := h4 i _ z hv hzz
    refine ⟨_, idx, c, ?_, f1, f2, f3⟩
    rw [cell_of_row w g i cur _ _ hh, ← Array.getElem?_toList]
    have h5 : (cur.toList.take (q * 1))[i]? = cur.toList[i]? := by rw [List.getElem?_take, if_pos (by omega)]
    rw [← h5, ht, hv]
end Go.Proofs.Ytbmapjbjpgoibaa
