/- A list laid anew behind another one; the document's own Read. -/
import Derived.Test.YtbmapjbjpgoibaaRef1
import Derived.Deep.Upon
namespace Go.Proofs.Ytbmapjbjpgoibaa
open Go.ChangeShapes Go.WideShapes Go.ChangeAt Go.RowKit
set_option linter.unusedVariables false

/-- 'append(s, x...)', x maybe empty: as a step of the walk. -/
theorem wpList_append_spread {P : Program} {base : Nat} (w : World) {ops : Array Oper} {rest : List Oper} {o : Oper} {a : Act} {Q : Exit → Act → World → Prop} (hgd : o.guard = none) (s x : Operand) (t : TypeId)
    (ho : o.op = .call { callee := .builtin .append, args := #[s, x], argTypes := #[t, t] })
    (e : TypeId) (i : TypeInfo) (z : Value) (bytes : Nat) (ht : P.underlying t = some (.slice e)) (hi : P.info? e = some i) (hz : i.zero = some z) (hsize : i.size = 1) (hby : i.bytes = bytes) (hzs : z.cells.size = 1) (hbb : bytes ≤ 100)
    (g0 n c0 : Nat) (xs : List Value) (hs : a.eval s = .slice (some ⟨g0, 0, none⟩) n c0) (hown : w.ownsRow base e 1 (.slice (some ⟨g0, 0, none⟩) n c0) n xs)
    (xa : Option Addr) (m c : Nat) (news : List Value) (hx : a.eval x = .slice xa m c) (hl : news.length = m) (hnews : 0 < m → ∃ ad, xa = some ad ∧ ∀ j u, news[j]? = some u → w.cell? (ad.add j) = some u) (h1 : ∀ u ∈ news, u.oneCell' = true)
    (h63 : n + m ≤ 1000) (hbase : base ≤ w.heap.size)
    (h : ∀ g cap w', w'.ownsRow base e 1 (.slice (some ⟨g, 0, none⟩) (n + m) cap) (n + m) (xs ++ news) → w.grownBy w' (some g0) → (g = g0 ∨ g = w.heap.size) → wpList P ops Q rest (a.put o.dst (.slice (some ⟨g, 0, none⟩) (n + m) cap)) w') :
    wpList P ops Q (o :: rest) a w := by
  by_cases hm : 0 < m
  · obtain ⟨ad, rfl, hcell⟩ := hnews hm
    refine wpList_append_lies w hgd s x t ho base e i z 1 bytes ht hi hz hsize hby hzs (by decide) _ n xs hs hown ad m c news hx (by omega) hcell h1 hm (by unfold maxLen; omega) (by have : (n + m) * bytes ≤ 1000 * 100 := Nat.mul_le_mul h63 hbb; omega) hbase _ rfl ?_
    intro g cap w' q1 q2 q3 q4
    refine h g cap w' q1 q2 (q3.elim (fun h => .inl ?_) .inr)
    simpa [Value.ownBlock] using h.symm
  · obtain rfl : m = 0 := by omega
    obtain rfl : news = [] := List.length_eq_zero_iff.1 hl
    have hle : n ≤ c0 := by
      rcases hown.2 with ⟨e, _⟩ | ⟨g, cap, cur, e, _, _, hc, _⟩
      · cases e
      · injection e with e1 e2 e3
        omega
    have hsrc : Src P i.size t (.slice xa 0 c) 0 [] w := by
      cases xa with
      | none => exact Src.ofNil w ht c
      | some ad => exact Src.ofSlice w ht ad 0 c [] (by simp) (fun j u hu => by simp at hu) (fun u hu => by cases hu)
    have hr := run_append_nothing (P := P) w t t o.type e i ht hi (some ⟨g0, 0, none⟩) n c0 hle _ hsrc
    refine wpList_plain hgd fun K hK => ?_
    unfold Oper.wp execOp
    simp only [ho, resolve, invoke, builtin, Sem.run_bind, Sem.run_pure, Result.andThen_ok, List.map_toArray, List.map_cons, List.map_nil, hs, hx, hr]
    refine hK _ _ (h g0 c0 w (by simpa using hown) ⟨rfl, rfl, rfl, Nat.le_refl _, fun _ _ _ => rfl⟩ (.inl rfl))
theorem ownW_of_has {w : World} {g k : Nat} {ns : List Nat} {rest : List Value} (h : Has w g 49 (wordsV ns ++ rest)) (hl : ns.length = k) (ha : AllW ns) : OwnW w g k ns := by
  refine ⟨_, h, by simp [wordsV]; omega, hl, ha, fun i hi => ?_⟩
  rw [List.getElem?_append_left (by simp [wordsV]; omega), wordsV, List.getElem?_map, List.getD_eq_getElem?_getD, List.getElem?_eq_getElem (show i < ns.length by omega)]
  rfl
theorem words_news {w : World} {A : Option Addr} {k : Nat} {ns : List Nat} (h : Words w A k ns) : (wordsV ns).length = k ∧ (∀ u ∈ wordsV ns, u.oneCell' = true) ∧ (0 < k → ∃ ad, A = some ad ∧ ∀ j u, (wordsV ns)[j]? = some u → w.cell? (ad.add j) = some u) := by
  obtain ⟨h1, h2, h3⟩ := h
  refine ⟨by simpa [wordsV] using h1, fun u hu => by obtain ⟨n, _, rfl⟩ := List.mem_map.1 hu; rfl, fun h0 => ?_⟩
  obtain ⟨b, off, rfl, hlt, hc⟩ := h3 h0
  refine ⟨_, rfl, fun j u hu => ?_⟩
  have hj : j < k := by have := (List.getElem?_eq_some_iff.1 hu).1; simp [wordsV] at this; omega
  rw [show (⟨b, off, none⟩ : Addr).add j = ⟨b, off + j, none⟩ by unfold Addr.add; split <;> simp_all, hc j hj, ← hu, wordsV, List.getElem?_map, List.getD_eq_getElem?_getD, List.getElem?_eq_getElem (show j < ns.length by omega)]
  rfl
theorem Try.infoU : (Try.prog.info? 49).map (fun i => (i.zero, i.size, i.bytes)) = some (some (.int .u64 0), 1, 8) := by kernel_rfl
/-- 'append([]uint64{}, x...)': as a step of the walk. -/
theorem wpList_append_words {P : Nat} (w : World) {ops : Array Oper} {rest : List Oper} {o : Oper} {a : Act} {Q : Exit → Act → World → Prop} (hgd : o.guard = none) (s x : Operand)
    (ho : o.op = .call { callee := .builtin .append, args := #[s, x], argTypes := #[33, 33] }) (A : Option Addr) (k c : Nat) (ns : List Nat)
    (hs : a.eval s = .slice (some ⟨w.heap.size, 0, none⟩) 0 0) (hx : a.eval x = .slice A k c) (hw : Words w A k ns) (hk : k ≤ 1000)
    (h : ∀ g cap w', w.heap.size ≤ g → k ≤ cap → OwnW w' g k ns → Below w.heap.size w w' → wpList Try.prog ops Q rest (a.put o.dst (.slice (some ⟨g, 0, none⟩) k cap)) w') :
    wpList Try.prog ops Q (o :: rest) a (w.alloc (.cells #[] 49)) := by
  obtain ⟨i0, hi, hz0, hz1, hz2⟩ := info_parts Try.infoU
  have hb0 : Below w.heap.size w (w.alloc (.cells #[] 49)) := (Below.refl _ _).alloc (Nat.le_refl _) _
  obtain ⟨n1, n2, n3⟩ := words_news (hw.below hb0)
  refine wpList_append_spread (base := w.heap.size) _ hgd s x 33 ho 49 i0 (.int .u64 0) 8 Try.underlying33 hi hz0 hz1 hz2 rfl (by decide) w.heap.size 0 0 [] hs (Has.owns (rest := []) (Has.made w 49 []) rfl rfl (by decide) (Nat.le_refl _)) A k c (wordsV ns) hx n1 n3 n2 (by omega) (by simp) ?_
  intro g cap w' hown hgrow hor
  rw [Nat.zero_add, List.nil_append] at hown
  obtain ⟨rest', hh, _, hcap⟩ := has_of_owns hown
  rw [Nat.zero_add]
  exact h g cap w' (by rcases hor with rfl | rfl <;> simp) (by omega) (ownW_of_has hh hw.1 hw.2.1) (((Kept.of_below (F := fun b => w.heap.size ≤ b) hb0).grown hgrow (fun g hg => .inr (by injection hg with hg; omega))).below (Nat.le_refl _) (fun b hb hf => by omega))
set_option maxRecDepth 100000 in
theorem ref_Read (r : RB) (k i : Nat) (h : Int) (s : Sl) (c : SC) (w : World) (hs : IsRef w r k s) (e : s.find h = some i) (hc : s.cells[i]? = some c) :
    Calls Try.prog 19 #[.pointer (some ⟨r.bR, 0, none⟩), .int .i64 h] w (ReadTold c.ws w) := by
  have HG := Lib.hid (ref_good r k i h s w hs e)
  have p2 := hs.p2
  have hi : i < s.cells.length := (List.getElem?_eq_some_iff.1 hc).1
  have n64 := hs.n64
  have k32 := hs.k32
  obtain ⟨rv, _, hv2⟩ := hs.v
  have cW : s.cells.length ≤ r.cW := by omega
  obtain ⟨p, hp⟩ : ∃ p, r.vs[i]? = some p := ⟨_, List.getElem?_eq_getElem (by rw [hs.vl]; exact hi)⟩
  have c2 := hs.cv hp
  obtain ⟨hpk, hown⟩ := hs.ws i p c hp hc
  have HW := Lib.hid hown
  have hbR := hs.hd.lt
  have hbW : r.bW < w.heap.size := by rename_i hx; exact hx.lt
  clear hs e hc hv2 hp hown
  generalize s.cells.length = n at *
  go_enter Try.func19, Try.ntmps19
  go_wp2_with fail
  refine HG.out.mono ?_
  rintro e w' ⟨rfl, rfl⟩
  go_wp2_with (at_builtin; refine wpList_append_words (P := 0) w rfl _ _ rfl _ k _ c.ws rfl rfl HW.out.words (by omega) ?_)
  intro g cap w1 hg hcap hown hb
  have R := Lib.hid (show ReadTold c.ws w (.returned (.tuple #[.slice (some ⟨g, 0, none⟩) k cap, .int .i64 0])) w1 from by
    have hl := hown.len_
    exact ⟨_, cap, by rw [hl], ⟨by omega, by omega, hown.all, .inr ⟨g, rfl, hg, by rw [hl]; exact hown⟩⟩, hb⟩)
  clear hg hown hb
  go_wp2
  go_ret2
  exact R.out
theorem ref_Read_no (r : RB) (k : Nat) (h : Int) (s : Sl) (w : World) (hs : IsRef w r k s) (hm : h ≤ 9223372036854775807) (e : s.find h = none) :
    Calls Try.prog 19 #[.pointer (some ⟨r.bR, 0, none⟩), .int .i64 h] w fun e w' => e = .returned (.tuple #[.slice none 0 0, .int .i64 6]) ∧ w = w' := by
  have HG := Lib.hid (ref_bad r k h s w hs hm e)
  clear hs e
  go_enter Try.func19, Try.ntmps19
  go_wp2_with fail
  refine HG.out.mono ?_
  rintro e w' ⟨rfl, rfl⟩
  go_wp2
  go_ret2
  exact ⟨rfl, rfl⟩
end Go.Proofs.Ytbmapjbjpgoibaa
