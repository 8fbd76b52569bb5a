/- The contract of slab's Live. -/
import Derived.Test.YtbmapjbjpgoibaaSlab5
namespace Go.Proofs.Ytbmapjbjpgoibaa
open Go.ChangeShapes Go.WideShapes Go.ChangeAt Go.RowKit Go.Shelf
set_option linter.unusedVariables false
attribute [local go_sem] Oper.semAt_some

theorem Live_nil (w : World) : Calls Try.prog 26 #[.pointer none] w fun e w' => e = .returned (.slice none 0 0) ∧ Below w.heap.size w w' := by
  go_enter Try.func26, Try.ntmps26
  go_wp2
  go_ret
  exact ⟨rfl, (Below.refl _ _).alloc (Nat.le_refl _) _⟩

theorem IsSlab.own {bP bC bF k : Nat} {s : Sl} {β : Type} : Own (fun (_ : β) W => IsSlab W bP bC bF k s) := fun _ W W' row hs hg hr => by
  refine hs.kept (F := fun b => row = some b) ⟨hg.os, hg.tape, hg.output, hg.size, fun i hi hF => hg.block i hi (fun e => hF e.symm)⟩ (fun b hb e => ?_)
  obtain ⟨o, ho, hc⟩ := hr b e
  have key : ∀ t l, Has W b t l → False := fun t l h => by unfold Has at h; rw [h] at ho; injection ho with e; subst e; cases hc
  rcases hb with rfl | rfl | rfl | ⟨c, hc', rfl⟩
  · exact key _ _ hs.hd
  · exact key _ _ hs.cs
  · obtain ⟨rest, h1, _⟩ := hs.fr; exact key _ _ h1
  · exact key _ _ (hs.ws c hc').1

/-- What Live tells. -/
def LiveTold (hs : List Int) (w : World) (e : Ending) (w' : World) : Prop :=
  ∃ v, e = .returned v ∧ w'.ownsRow w.heap.size 3 1 v hs.length (hs.map (Value.int .i64)) ∧ (v = .slice none 0 0 ↔ hs = []) ∧ Below w.heap.size w w'

/-- Between two rounds. -/
def LiveI (w : World) (bP bC bF k : Nat) (s : Sl) (pre : List (LC s)) (W : World) : Prop :=
  (∃ v, Boxed W (w.heap.size + 1) 32 v ∧ W.ownsRow (w.heap.size + 1 + 1 + 1) 3 1 v pre.length ((pre.map fun p => hdl p.1).map (Value.int .i64)) ∧ (v = .slice none 0 0 ↔ pre = [])) ∧ Boxed W w.heap.size 25 (.pointer (some ⟨bP, 0, none⟩)) ∧ IsSlab W bP bC bF k s ∧ Below w.heap.size w W ∧ w.heap.size + 1 + 1 + 1 ≤ W.heap.size
theorem liveI_own (w W0 : World) (bP bC bF k : Nat) (s : Sl) (h : w.heap.size ≤ W0.heap.size) : OwnFrom W0.heap.size (LiveI w bP bC bF k s) := fun pre W W' row h0 hg hr => by
  obtain ⟨h1, h2, h3, h4, h5⟩ := h0
  have hr2 : ∀ r, row = some r → ∃ o : Obj, W.heap[r]? = some o ∧ o.isCells = false := fun r e => (hr r e).2
  have k1 : ∀ B t u, Boxed W B t u → Boxed W' B t u := fun B t u h => h.kept hg (fun e' => by obtain ⟨o, ho, hc⟩ := hr2 B e'.symm; rw [show W.heap[B]? = _ from h] at ho; cases ho; cases hc)
  obtain ⟨v, hv, hrw, hG⟩ := h1
  have hrw' : W'.ownsRow (w.heap.size + 1 + 1 + 1) 3 1 v pre.length ((pre.map fun p => hdl p.1).map (Value.int .i64)) := by
    refine hrw.kept hg ?_
    rcases hrw.2 with ⟨rfl, _⟩ | ⟨g, cap, cur, rfl, _, hgb, _⟩
    · exact .inl rfl
    · refine .inr fun e' => ?_
      obtain ⟨o, ho, hc⟩ := hr2 g (by simpa [Value.ownBlock] using e'.symm)
      rw [hgb] at ho; cases ho; cases hc
  exact ⟨⟨v, k1 _ _ _ hv, hrw', hG⟩, k1 _ _ _ h2, IsSlab.own (β := Unit) () W W' row h3 hg hr2, h4.grown hg (Nat.le_trans (Nat.le_refl _) h4.size) (fun r e => Nat.le_trans h (hr r e).1), Nat.le_trans h5 hg.size⟩
theorem ownsRow_lower {w : World} {b b' : Nat} {e : TypeId} {size : Nat} {v : Value} {n : Nat} {xs : List Value} (h : w.ownsRow b e size v n xs) (hb : b' ≤ b) : w.ownsRow b' e size v n xs := by
  obtain ⟨h1, h2 | ⟨g, cap, cur, e1, e2, e3⟩⟩ := h
  · exact ⟨h1, .inl h2⟩
  · exact ⟨h1, .inr ⟨g, cap, cur, e1, Nat.le_trans hb e2, e3⟩⟩

/-- append, at a step of a region that draws its order, inside a fence. -/
theorem stepIn_append_own {F : Fence} {n : Nat} {P : Program} {ops : Array Oper} {o : Oper} {a : Act} {w : World} {K : Act → World → Prop} {Q : Exit → Act → World → Prop} {E : Prop}
    (hg : o.guard = none) (s x : Operand) (t : TypeId) (hop : o.op = Op.call { callee := Callee.builtin Builtin.append, args := #[s, x], argTypes := #[t, t] })
    (base : Nat) (e : TypeId) (i : TypeInfo) (z : Value) (size bytes : Nat) (h1 : P.underlying t = some (.slice e)) (h2 : P.info? e = some i) (h3 : i.zero = some z) (h4 : i.size = size) (h5 : i.bytes = bytes) (h6 : z.cells.size = size) (h7 : 0 < size)
    (v : Value) (k : Nat) (xs : List Value) (hs : a.eval s = v) (hown : w.ownsRow base e size v k xs) (ad : Addr) (m c : Nat) (news : List Value) (hx : a.eval x = .slice (some ad) m c) (hn : news.length = m * size)
    (hc : ∀ j u, news[j]? = some u → w.cell? (ad.add j) = some u) (h1c : ∀ u ∈ news, u.oneCell' = true) (b1 : k + m ≤ maxLen) (b2 : (k + m) * bytes ≤ 140737488355328) (b3 : base ≤ w.heap.size)
    (hK : ∀ v' w', w'.ownsRow base e size v' (k + m) (xs ++ news) → w.grownBy w' v.ownBlock → (v' = .slice none 0 0 ↔ v = .slice none 0 0 ∧ m = 0) → K (a.put o.dst v') w') :
    if Region.wanted o (yielded ops a.tmps) = true then Oper.wpIn F n P o a w K Q else E := by
  have hw : Region.wanted o (yielded ops a.tmps) = true := by simp [Region.wanted, hg]
  rw [if_pos hw]
  obtain ⟨v', w', hrun, r1, r2, r3⟩ := run_append_own (P := P) w base t o.type e i z size bytes h1 h2 h3 h4 h5 h6 h7 v k xs hown ad m c news hn hc h1c b1 b2 b3
  unfold Oper.wpIn
  refine ⟨?_, ?_⟩
  · simp [Oper.about, hop, resolve, Target.leads, Sem.run_pure]
  · rw [Oper.semAt_plain F _ _ (by rw [hop]; intro c hc'; cases hc')]
    simp [execOp, hop, resolve, invoke, builtin, hs, hx, hrun, Result.andThen]
    exact hK v' w' r1 r2 r3

/-- What a round leaves. -/
theorem live_round {w W w1 : World} {bP bC bF k : Nat} {s : Sl} {pre : List (LC s)} {x : LC s} {v v' : Value} {tmp : Obj} {B0 : Nat} (hlt : ∀ b, foot bP bC bF s b → b < w.heap.size)
    (hv : Boxed W (w.heap.size + 1) 32 v) (hrow : W.ownsRow (w.heap.size + 1 + 1 + 1) 3 1 v pre.length ((pre.map fun p => hdl p.1).map (Value.int .i64))) (hbs : Boxed W w.heap.size 25 (.pointer (some ⟨bP, 0, none⟩)))
    (hS : IsSlab W bP bC bF k s) (hB : Below w.heap.size w W) (h5 : w.heap.size + 1 + 1 + 1 ≤ W.heap.size)
    (hown' : w1.ownsRow (w.heap.size + 1 + 1 + 1) 3 1 v' (pre.length + 1) ((pre.map fun p => hdl p.1).map (Value.int .i64) ++ [.int .i64 (hdl x.1)])) (hgrow : (W.alloc tmp).grownBy w1 v.ownBlock) :
    Boxed w1 (w.heap.size + 1) 32 v ∧ KeepsFrom B0 W (w1.setCell ⟨w.heap.size + 1, 0, none⟩ v') ∧ Keeps (w.heap.size + 1 + 1 + 1) (w.heap.size + 1) W (w1.setCell ⟨w.heap.size + 1, 0, none⟩ v') ∧ LiveI w bP bC bF k s (pre ++ [x]) (w1.setCell ⟨w.heap.size + 1, 0, none⟩ v') := by
  have hrow2 := ownsRow_lower hrow (b' := w.heap.size + 1) (by omega)
  have hown2 := ownsRow_lower hown' (b' := w.heap.size + 1) (by omega)
  obtain ⟨hv1, hv2, hr2, hk2, hb2⟩ := hv.appended (by decide) hrow2 (by omega) (Nat.le_refl _) hown2 hgrow
  have hob : ∀ b, some b = v.ownBlock → w.heap.size + 1 + 1 + 1 ≤ b := fun b hb => by
    rcases hrow.2 with ⟨rfl, _⟩ | ⟨g, cap, cur, rfl, hg, _⟩
    · simp [Value.ownBlock] at hb
    · have : b = g := by simpa [Value.ownBlock] using hb
      omega
  have hkeep : Keeps (w.heap.size + 1 + 1 + 1) (w.heap.size + 1) W (w1.setCell ⟨w.heap.size + 1, 0, none⟩ v') := fun b c t fr hb hne hc => by
    have hbl : b < W.heap.size := by omega
    rw [Below.heap_setCell _ _ _ _ hne, hgrow.block b (by simp; omega) (fun e => by have := hob b e; omega), Below.heap_alloc _ _ _ hbl]
    exact hc
  have hown3 : (w1.setCell ⟨w.heap.size + 1, 0, none⟩ v').ownsRow (w.heap.size + 1 + 1 + 1) 3 1 v' (pre.length + 1) ((pre.map fun p => hdl p.1).map (Value.int .i64) ++ [.int .i64 (hdl x.1)]) :=
    hown'.kept (grownBy_setCell' w1 _ v') (.inr (hv1.not_row (by decide) hown').symm)
  refine ⟨hv1, hk2.from _, hkeep, ⟨v', hv2, by simpa using hown3, ?_⟩, ?_, hS.keeps hkeep (fun b hb => by have := hlt b hb; omega), ?_, ?_⟩
  · obtain ⟨g, cap, rfl⟩ := ownsRow_succ hown'
    simp
  · exact hkeep _ _ _ _ (by omega) (by omega) hbs
  · exact hB.trans ((Below.mono hb2 (by omega)))
  · have := hgrow.size
    simp [World.setCell] at this ⊢
    omega

set_option maxRecDepth 100000 in
set_option maxHeartbeats 2000000 in
theorem Live_any (bP bC bF k : Nat) (s : Sl) (w : World) (hs : IsSlab w bP bC bF k s) :
    Calls Try.prog 26 #[.pointer (some ⟨bP, 0, none⟩)] w (LiveTold s.live w) := by
  have hlt : ∀ b, foot bP bC bF s b → b < w.heap.size := fun b hb => hs.foot_lt hb
  have n64 := hs.n64
  have HS := Lib.hid hs
  clear hs
  obtain ⟨i0, hi, hz0, hz1, hz2⟩ := info_parts Try.infoInt
  refine (callsIn_wide (n := 3)).1 ?_
  refine callsIn_of_wp_marks Try.func26 rfl trivial ?_ rfl
  simp only [Try.ntmps26, List.size_toArray, List.length_cons, List.length_nil, Nat.reduceAdd, Nat.reduceSub, Array.replicate_succ, Array.replicate_zero, List.push_toArray, List.append_toArray, List.nil_append, List.cons_append]
  gi_wp2_with (refine ⟨trivial, ?_⟩; gi_at_call 32; refine (taken_in Fence.wide _ trivial rfl _ _).mono ?_; rintro e w' ⟨rfl, rfl⟩)
  obtain ⟨W0, hW0⟩ : ∃ W0, ((w.alloc (.cells #[.pointer (some ⟨bP, 0, none⟩)] 25)).alloc (.cells #[.slice none 0 0] 32)).alloc (.cells #[.pointer (some ⟨bP, 0, none⟩)] 25) = W0 := ⟨_, rfl⟩
  rw [hW0]
  have hsz : W0.heap.size = w.heap.size + 1 + 1 + 1 := by rw [← hW0]; simp
  have hB0 : Below w.heap.size w W0 := by rw [← hW0]; exact (((Below.refl _ w).alloc (Nat.le_refl _) _).alloc (by simp) _).alloc (by simp; omega) _
  have bS : Boxed W0 w.heap.size 25 (.pointer (some ⟨bP, 0, none⟩)) := by rw [← hW0]; exact ((Boxed.new w _ _).alloc _).alloc _
  have bO : Boxed W0 (w.heap.size + 1) 32 (.slice none 0 0) := by
    have := (Boxed.new (w.alloc (.cells #[.pointer (some ⟨bP, 0, none⟩)] 25)) 32 (.slice none 0 0)).alloc (.cells #[.pointer (some ⟨bP, 0, none⟩)] 25)
    rw [World.size_alloc, hW0] at this
    exact this
  have bN : Has W0 (w.heap.size + 1 + 1) 25 [.pointer (some ⟨bP, 0, none⟩)] := by
    have := Has.made ((w.alloc (.cells #[.pointer (some ⟨bP, 0, none⟩)] 25)).alloc (.cells #[.slice none 0 0] 32)) 25 [.pointer (some ⟨bP, 0, none⟩)]
    rw [World.size_alloc, World.size_alloc] at this
    rw [← hW0]
    exact this
  have hS0 : IsSlab W0 bP bC bF k s := HS.out.below hB0
  have hseq := taken_stops Fence.wide (3 - 1) trivial rfl (by omega) (w.heap.size + 1 + 1) (w.heap.size + 1 + 1 + 1) (w.heap.size + 1) bP bC bF k s W0 (fun b hb => by have := hlt b hb; omega) (by omega) bN hS0
  have hI : OwnFrom W0.heap.size (LiveI w bP bC bF k s) := liveI_own w W0 bP bC bF k s (by omega)
  have hI0 : LiveI w bP bC bF k s [] W0 := ⟨⟨_, bO, World.ownsRow_nil _ _ _ _, by simp⟩, bS, hS0, hB0, by omega⟩
  clear hW0
  refine wpIn_rangeFunc_ownG (F := Fence.wide) (n := 3) (w := W0) rfl (by omega) (gf := 33) (lb := #[.pointer (some ⟨w.heap.size + 1 + 1, 0, none⟩)]) rfl trivial (enters_of Try.func33 (by kernel_rfl) rfl)
    hseq (fun h k => h.trans k) (fun W l o o' _ hl ho _ => Keeps.putObj o' hl ho) (Below.refl _ _) (fun _ => rfl)
    (LiveI w bP bC bF k s) (fun _ _ _ => False) hI (fun _ _ _ _ _ hs _ _ => hs) hI0
    (fun x => { tmps := #[.pointer (some ⟨bP, 0, none⟩), .pointer (some ⟨w.heap.size, 0, none⟩), .slice none 0 0, .pointer (some ⟨w.heap.size + 1, 0, none⟩), .int .i64 (x.1.1 : Int), .pointer (some ⟨bP, 0, none⟩), .bool false, .pointer (some ⟨bP, 0, none⟩), .func (.func 33) #[] #[.pointer (some ⟨w.heap.size + 1 + 1, 0, none⟩)], .int .i64 (x.1.1 : Int), undef, undef, undef, undef, undef, undef, undef], defers := [] }) ?assign ?body ?done ?stop
  case assign =>
    intro l x W K hK
    gi_wp2
    exact hK
  case body =>
    rintro l pre x W ⟨⟨v, hv, hrow, hnil⟩, hbs, hS, hB, h5⟩ hlp
    have hc := hv.cell
    have hc2 := hbs.cell
    have HH := Lib.hid (handle_any bP bC bF k x.1.1 s x.1.2 · · x.2)
    have hmx : Try.prog.follows .mixedOrders = true := by kernel_rfl
    have HR := Lib.hid (fun w1 v' tmp => live_round (B0 := W0.heap.size) (w1 := w1) (v' := v') (tmp := tmp) (x := x) hlt (show Boxed W.drew _ _ _ from hv) (show W.drew.ownsRow _ _ _ _ _ _ from hrow) hbs (show IsSlab W.drew _ _ _ _ _ from hS.kept (Kept.refl (fun _ => False) W).drew (fun _ _ => id)) hB.drew h5)
    have HROW := Lib.hid (show W.drew.ownsRow _ _ _ _ _ _ from hrow)
    have HSD := Lib.hid (show IsSlab W.drew bP bC bF k s from hS.kept (Kept.refl (fun _ => False) W).drew (fun _ _ => id))
    have HS2 := Lib.hid hS
    have hb1 : w.heap.size + 1 < W.heap.size := by omega
    have hb0 : w.heap.size < W.heap.size := by omega
    clear hrow hnil hS hB
    gi_wp2
    refine wpIn_region_any (by assumption) ?_
    change wpAnyIn _ _ _ _ _ _ _ _ _ (World.drew _)
    refine wpAnyIn_ready (rs := [0, 1, 2]) (by kernel_rfl) (by simp) (AllReadyIn.cons rfl (fun K hK => ?_) (AllReadyIn.cons rfl (fun K hK => ?_) (AllReadyIn.cons rfl (fun K hK => ?_) AllReadyIn.nil)))
    · go_simp
      refine hK _ _ ?_
      clear hK K
      refine wpAnyIn_ready (rs := [1, 2]) (by kernel_rfl) (by simp) (AllReadyIn.cons rfl (fun K hK => ?_) (AllReadyIn.cons rfl (fun K hK => ?_) AllReadyIn.nil))
      · go_simp
        refine hK _ _ ?_
        clear hK K
        refine wpAnyIn_ready (rs := [2]) (by kernel_rfl) (by simp) (AllReadyIn.cons rfl (fun K hK => ?_) AllReadyIn.nil)
        go_simp
        refine hK _ _ ?_
        clear hK K
        refine wpAnyIn_ready (rs := [3]) (by kernel_rfl) (by simp) (AllReadyIn.cons rfl (fun K hK => ?_) AllReadyIn.nil)
        go_simp
        gi_wp2_with (refine ⟨trivial, ?_⟩; gi_at_call 28; refine (CallsIn.inRound l (callsIn_wide.2 (HH.out _ HSD.out))).mono ?_; rintro e w' ⟨rfl, rfl⟩)
        refine wpAnyIn_ready (rs := [4]) (by kernel_rfl) (by simp) (AllReadyIn.cons rfl (fun K hK => ?_) AllReadyIn.nil)
        go_simp
        refine hK _ _ ?_
        clear hK K
        refine wpAnyIn_ready (rs := [5]) (by kernel_rfl) (by simp) (AllReadyIn.cons rfl (fun K hK => ?_) AllReadyIn.nil)
        refine stepIn_append_own rfl (.tmp 10) (.tmp 14) 32 rfl (w.heap.size + 1 + 1 + 1) 3 i0 (.int .i64 0) 1 8 Try.underlying32 hi hz0 hz1 hz2 rfl (by decide) v pre.length _ rfl (HROW.out.alloc _) ⟨W.heap.size, 0, none⟩ 1 1 [.int .i64 (hdl x.1)] rfl rfl (cell_one_new _ _ _) (by simp [Value.oneCell']) (by unfold maxLen; omega) (by omega) (by simp; omega) ?_
        intro v' w1 hown' hgrow _
        obtain ⟨g', cap', rfl⟩ := ownsRow_succ hown'
        obtain ⟨hv1, r2, r3, r4⟩ := HR.out w1 _ _ hown' hgrow
        have hc1 := hv1.cell
        have hf1 := hv1.frozen
        have R := Lib.hid (And.intro (show KeepsFrom W0.heap.size W _ from ⟨r2.size, r2.same⟩) (And.intro (show Keeps _ _ W _ from r3) r4))
        clear r2 r3 r4 hown' hgrow hv1
        refine hK _ _ ?_
        clear hK K
        refine wpAnyIn_ready (rs := [6]) (by kernel_rfl) (by simp) (AllReadyIn.cons rfl (fun K hK => ?_) AllReadyIn.nil)
        go_simp
        refine hK _ _ ?_
        clear hK K
        refine wpAnyIn_done (by kernel_rfl) ?_ _
        gi_wp2
        exact R.out
      · go_simp
        refine hK _ _ ?_
        clear hK K
        refine wpAnyIn_ready (rs := [1]) (by kernel_rfl) (by simp) (AllReadyIn.cons rfl (fun K hK => ?_) AllReadyIn.nil)
        go_simp
        refine hK _ _ ?_
        clear hK K
        refine wpAnyIn_ready (rs := [3]) (by kernel_rfl) (by simp) (AllReadyIn.cons rfl (fun K hK => ?_) AllReadyIn.nil)
        go_simp
        gi_wp2_with (refine ⟨trivial, ?_⟩; gi_at_call 28; refine (CallsIn.inRound l (callsIn_wide.2 (HH.out _ HSD.out))).mono ?_; rintro e w' ⟨rfl, rfl⟩)
        refine wpAnyIn_ready (rs := [4]) (by kernel_rfl) (by simp) (AllReadyIn.cons rfl (fun K hK => ?_) AllReadyIn.nil)
        go_simp
        refine hK _ _ ?_
        clear hK K
        refine wpAnyIn_ready (rs := [5]) (by kernel_rfl) (by simp) (AllReadyIn.cons rfl (fun K hK => ?_) AllReadyIn.nil)
        refine stepIn_append_own rfl (.tmp 10) (.tmp 14) 32 rfl (w.heap.size + 1 + 1 + 1) 3 i0 (.int .i64 0) 1 8 Try.underlying32 hi hz0 hz1 hz2 rfl (by decide) v pre.length _ rfl (HROW.out.alloc _) ⟨W.heap.size, 0, none⟩ 1 1 [.int .i64 (hdl x.1)] rfl rfl (cell_one_new _ _ _) (by simp [Value.oneCell']) (by unfold maxLen; omega) (by omega) (by simp; omega) ?_
        intro v' w1 hown' hgrow _
        obtain ⟨g', cap', rfl⟩ := ownsRow_succ hown'
        obtain ⟨hv1, r2, r3, r4⟩ := HR.out w1 _ _ hown' hgrow
        have hc1 := hv1.cell
        have hf1 := hv1.frozen
        have R := Lib.hid (And.intro (show KeepsFrom W0.heap.size W _ from ⟨r2.size, r2.same⟩) (And.intro (show Keeps _ _ W _ from r3) r4))
        clear r2 r3 r4 hown' hgrow hv1
        refine hK _ _ ?_
        clear hK K
        refine wpAnyIn_ready (rs := [6]) (by kernel_rfl) (by simp) (AllReadyIn.cons rfl (fun K hK => ?_) AllReadyIn.nil)
        go_simp
        refine hK _ _ ?_
        clear hK K
        refine wpAnyIn_done (by kernel_rfl) ?_ _
        gi_wp2
        exact R.out
    · go_simp
      refine hK _ _ ?_
      clear hK K
      refine wpAnyIn_ready (rs := [0, 2]) (by kernel_rfl) (by simp) (AllReadyIn.cons rfl (fun K hK => ?_) (AllReadyIn.cons rfl (fun K hK => ?_) AllReadyIn.nil))
      · go_simp
        refine hK _ _ ?_
        clear hK K
        refine wpAnyIn_ready (rs := [2]) (by kernel_rfl) (by simp) (AllReadyIn.cons rfl (fun K hK => ?_) AllReadyIn.nil)
        go_simp
        refine hK _ _ ?_
        clear hK K
        refine wpAnyIn_ready (rs := [3]) (by kernel_rfl) (by simp) (AllReadyIn.cons rfl (fun K hK => ?_) AllReadyIn.nil)
        go_simp
        gi_wp2_with (refine ⟨trivial, ?_⟩; gi_at_call 28; refine (CallsIn.inRound l (callsIn_wide.2 (HH.out _ HSD.out))).mono ?_; rintro e w' ⟨rfl, rfl⟩)
        refine wpAnyIn_ready (rs := [4]) (by kernel_rfl) (by simp) (AllReadyIn.cons rfl (fun K hK => ?_) AllReadyIn.nil)
        go_simp
        refine hK _ _ ?_
        clear hK K
        refine wpAnyIn_ready (rs := [5]) (by kernel_rfl) (by simp) (AllReadyIn.cons rfl (fun K hK => ?_) AllReadyIn.nil)
        refine stepIn_append_own rfl (.tmp 10) (.tmp 14) 32 rfl (w.heap.size + 1 + 1 + 1) 3 i0 (.int .i64 0) 1 8 Try.underlying32 hi hz0 hz1 hz2 rfl (by decide) v pre.length _ rfl (HROW.out.alloc _) ⟨W.heap.size, 0, none⟩ 1 1 [.int .i64 (hdl x.1)] rfl rfl (cell_one_new _ _ _) (by simp [Value.oneCell']) (by unfold maxLen; omega) (by omega) (by simp; omega) ?_
        intro v' w1 hown' hgrow _
        obtain ⟨g', cap', rfl⟩ := ownsRow_succ hown'
        obtain ⟨hv1, r2, r3, r4⟩ := HR.out w1 _ _ hown' hgrow
        have hc1 := hv1.cell
        have hf1 := hv1.frozen
        have R := Lib.hid (And.intro (show KeepsFrom W0.heap.size W _ from ⟨r2.size, r2.same⟩) (And.intro (show Keeps _ _ W _ from r3) r4))
        clear r2 r3 r4 hown' hgrow hv1
        refine hK _ _ ?_
        clear hK K
        refine wpAnyIn_ready (rs := [6]) (by kernel_rfl) (by simp) (AllReadyIn.cons rfl (fun K hK => ?_) AllReadyIn.nil)
        go_simp
        refine hK _ _ ?_
        clear hK K
        refine wpAnyIn_done (by kernel_rfl) ?_ _
        gi_wp2
        exact R.out
      · go_simp
        refine hK _ _ ?_
        clear hK K
        refine wpAnyIn_ready (rs := [0, 3]) (by kernel_rfl) (by simp) (AllReadyIn.cons rfl (fun K hK => ?_) (AllReadyIn.cons rfl (fun K hK => ?_) AllReadyIn.nil))
        · go_simp
          refine hK _ _ ?_
          clear hK K
          refine wpAnyIn_ready (rs := [3]) (by kernel_rfl) (by simp) (AllReadyIn.cons rfl (fun K hK => ?_) AllReadyIn.nil)
          go_simp
          gi_wp2_with (refine ⟨trivial, ?_⟩; gi_at_call 28; refine (CallsIn.inRound l (callsIn_wide.2 (HH.out _ HSD.out))).mono ?_; rintro e w' ⟨rfl, rfl⟩)
          refine wpAnyIn_ready (rs := [4]) (by kernel_rfl) (by simp) (AllReadyIn.cons rfl (fun K hK => ?_) AllReadyIn.nil)
          go_simp
          refine hK _ _ ?_
          clear hK K
          refine wpAnyIn_ready (rs := [5]) (by kernel_rfl) (by simp) (AllReadyIn.cons rfl (fun K hK => ?_) AllReadyIn.nil)
          refine stepIn_append_own rfl (.tmp 10) (.tmp 14) 32 rfl (w.heap.size + 1 + 1 + 1) 3 i0 (.int .i64 0) 1 8 Try.underlying32 hi hz0 hz1 hz2 rfl (by decide) v pre.length _ rfl (HROW.out.alloc _) ⟨W.heap.size, 0, none⟩ 1 1 [.int .i64 (hdl x.1)] rfl rfl (cell_one_new _ _ _) (by simp [Value.oneCell']) (by unfold maxLen; omega) (by omega) (by simp; omega) ?_
          intro v' w1 hown' hgrow _
          obtain ⟨g', cap', rfl⟩ := ownsRow_succ hown'
          obtain ⟨hv1, r2, r3, r4⟩ := HR.out w1 _ _ hown' hgrow
          have hc1 := hv1.cell
          have hf1 := hv1.frozen
          have R := Lib.hid (And.intro (show KeepsFrom W0.heap.size W _ from ⟨r2.size, r2.same⟩) (And.intro (show Keeps _ _ W _ from r3) r4))
          clear r2 r3 r4 hown' hgrow hv1
          refine hK _ _ ?_
          clear hK K
          refine wpAnyIn_ready (rs := [6]) (by kernel_rfl) (by simp) (AllReadyIn.cons rfl (fun K hK => ?_) AllReadyIn.nil)
          go_simp
          refine hK _ _ ?_
          clear hK K
          refine wpAnyIn_done (by kernel_rfl) ?_ _
          gi_wp2
          exact R.out
        · go_simp
          gi_wp2_with (refine ⟨trivial, ?_⟩; gi_at_call 28; refine (CallsIn.inRound l (callsIn_wide.2 (HH.out _ HSD.out))).mono ?_; rintro e w' ⟨rfl, rfl⟩)
          refine wpAnyIn_ready (rs := [0, 4]) (by kernel_rfl) (by simp) (AllReadyIn.cons rfl (fun K hK => ?_) (AllReadyIn.cons rfl (fun K hK => ?_) AllReadyIn.nil))
          · go_simp
            refine hK _ _ ?_
            clear hK K
            refine wpAnyIn_ready (rs := [4]) (by kernel_rfl) (by simp) (AllReadyIn.cons rfl (fun K hK => ?_) AllReadyIn.nil)
            go_simp
            refine hK _ _ ?_
            clear hK K
            refine wpAnyIn_ready (rs := [5]) (by kernel_rfl) (by simp) (AllReadyIn.cons rfl (fun K hK => ?_) AllReadyIn.nil)
            refine stepIn_append_own rfl (.tmp 10) (.tmp 14) 32 rfl (w.heap.size + 1 + 1 + 1) 3 i0 (.int .i64 0) 1 8 Try.underlying32 hi hz0 hz1 hz2 rfl (by decide) v pre.length _ rfl (HROW.out.alloc _) ⟨W.heap.size, 0, none⟩ 1 1 [.int .i64 (hdl x.1)] rfl rfl (cell_one_new _ _ _) (by simp [Value.oneCell']) (by unfold maxLen; omega) (by omega) (by simp; omega) ?_
            intro v' w1 hown' hgrow _
            obtain ⟨g', cap', rfl⟩ := ownsRow_succ hown'
            obtain ⟨hv1, r2, r3, r4⟩ := HR.out w1 _ _ hown' hgrow
            have hc1 := hv1.cell
            have hf1 := hv1.frozen
            have R := Lib.hid (And.intro (show KeepsFrom W0.heap.size W _ from ⟨r2.size, r2.same⟩) (And.intro (show Keeps _ _ W _ from r3) r4))
            clear r2 r3 r4 hown' hgrow hv1
            refine hK _ _ ?_
            clear hK K
            refine wpAnyIn_ready (rs := [6]) (by kernel_rfl) (by simp) (AllReadyIn.cons rfl (fun K hK => ?_) AllReadyIn.nil)
            go_simp
            refine hK _ _ ?_
            clear hK K
            refine wpAnyIn_done (by kernel_rfl) ?_ _
            gi_wp2
            exact R.out
          · go_simp
            refine hK _ _ ?_
            clear hK K
            refine wpAnyIn_ready (rs := [0]) (by kernel_rfl) (by simp) (AllReadyIn.cons rfl (fun K hK => ?_) AllReadyIn.nil)
            go_simp
            refine hK _ _ ?_
            clear hK K
            refine wpAnyIn_ready (rs := [5]) (by kernel_rfl) (by simp) (AllReadyIn.cons rfl (fun K hK => ?_) AllReadyIn.nil)
            refine stepIn_append_own rfl (.tmp 10) (.tmp 14) 32 rfl (w.heap.size + 1 + 1 + 1) 3 i0 (.int .i64 0) 1 8 Try.underlying32 hi hz0 hz1 hz2 rfl (by decide) v pre.length _ rfl (HROW.out.alloc _) ⟨W.heap.size, 0, none⟩ 1 1 [.int .i64 (hdl x.1)] rfl rfl (cell_one_new _ _ _) (by simp [Value.oneCell']) (by unfold maxLen; omega) (by omega) (by simp; omega) ?_
            intro v' w1 hown' hgrow _
            obtain ⟨g', cap', rfl⟩ := ownsRow_succ hown'
            obtain ⟨hv1, r2, r3, r4⟩ := HR.out w1 _ _ hown' hgrow
            have hc1 := hv1.cell
            have hf1 := hv1.frozen
            have R := Lib.hid (And.intro (show KeepsFrom W0.heap.size W _ from ⟨r2.size, r2.same⟩) (And.intro (show Keeps _ _ W _ from r3) r4))
            clear r2 r3 r4 hown' hgrow hv1
            refine hK _ _ ?_
            clear hK K
            refine wpAnyIn_ready (rs := [6]) (by kernel_rfl) (by simp) (AllReadyIn.cons rfl (fun K hK => ?_) AllReadyIn.nil)
            go_simp
            refine hK _ _ ?_
            clear hK K
            refine wpAnyIn_done (by kernel_rfl) ?_ _
            gi_wp2
            exact R.out
    · go_simp
      refine hK _ _ ?_
      clear hK K
      refine wpAnyIn_ready (rs := [0, 1]) (by kernel_rfl) (by simp) (AllReadyIn.cons rfl (fun K hK => ?_) (AllReadyIn.cons rfl (fun K hK => ?_) AllReadyIn.nil))
      · go_simp
        refine hK _ _ ?_
        clear hK K
        refine wpAnyIn_ready (rs := [1]) (by kernel_rfl) (by simp) (AllReadyIn.cons rfl (fun K hK => ?_) AllReadyIn.nil)
        go_simp
        refine hK _ _ ?_
        clear hK K
        refine wpAnyIn_ready (rs := [3]) (by kernel_rfl) (by simp) (AllReadyIn.cons rfl (fun K hK => ?_) AllReadyIn.nil)
        go_simp
        gi_wp2_with (refine ⟨trivial, ?_⟩; gi_at_call 28; refine (CallsIn.inRound l (callsIn_wide.2 (HH.out _ HSD.out))).mono ?_; rintro e w' ⟨rfl, rfl⟩)
        refine wpAnyIn_ready (rs := [4]) (by kernel_rfl) (by simp) (AllReadyIn.cons rfl (fun K hK => ?_) AllReadyIn.nil)
        go_simp
        refine hK _ _ ?_
        clear hK K
        refine wpAnyIn_ready (rs := [5]) (by kernel_rfl) (by simp) (AllReadyIn.cons rfl (fun K hK => ?_) AllReadyIn.nil)
        refine stepIn_append_own rfl (.tmp 10) (.tmp 14) 32 rfl (w.heap.size + 1 + 1 + 1) 3 i0 (.int .i64 0) 1 8 Try.underlying32 hi hz0 hz1 hz2 rfl (by decide) v pre.length _ rfl (HROW.out.alloc _) ⟨W.heap.size, 0, none⟩ 1 1 [.int .i64 (hdl x.1)] rfl rfl (cell_one_new _ _ _) (by simp [Value.oneCell']) (by unfold maxLen; omega) (by omega) (by simp; omega) ?_
        intro v' w1 hown' hgrow _
        obtain ⟨g', cap', rfl⟩ := ownsRow_succ hown'
        obtain ⟨hv1, r2, r3, r4⟩ := HR.out w1 _ _ hown' hgrow
        have hc1 := hv1.cell
        have hf1 := hv1.frozen
        have R := Lib.hid (And.intro (show KeepsFrom W0.heap.size W _ from ⟨r2.size, r2.same⟩) (And.intro (show Keeps _ _ W _ from r3) r4))
        clear r2 r3 r4 hown' hgrow hv1
        refine hK _ _ ?_
        clear hK K
        refine wpAnyIn_ready (rs := [6]) (by kernel_rfl) (by simp) (AllReadyIn.cons rfl (fun K hK => ?_) AllReadyIn.nil)
        go_simp
        refine hK _ _ ?_
        clear hK K
        refine wpAnyIn_done (by kernel_rfl) ?_ _
        gi_wp2
        exact R.out
      · go_simp
        refine hK _ _ ?_
        clear hK K
        refine wpAnyIn_ready (rs := [0, 3]) (by kernel_rfl) (by simp) (AllReadyIn.cons rfl (fun K hK => ?_) (AllReadyIn.cons rfl (fun K hK => ?_) AllReadyIn.nil))
        · go_simp
          refine hK _ _ ?_
          clear hK K
          refine wpAnyIn_ready (rs := [3]) (by kernel_rfl) (by simp) (AllReadyIn.cons rfl (fun K hK => ?_) AllReadyIn.nil)
          go_simp
          gi_wp2_with (refine ⟨trivial, ?_⟩; gi_at_call 28; refine (CallsIn.inRound l (callsIn_wide.2 (HH.out _ HSD.out))).mono ?_; rintro e w' ⟨rfl, rfl⟩)
          refine wpAnyIn_ready (rs := [4]) (by kernel_rfl) (by simp) (AllReadyIn.cons rfl (fun K hK => ?_) AllReadyIn.nil)
          go_simp
          refine hK _ _ ?_
          clear hK K
          refine wpAnyIn_ready (rs := [5]) (by kernel_rfl) (by simp) (AllReadyIn.cons rfl (fun K hK => ?_) AllReadyIn.nil)
          refine stepIn_append_own rfl (.tmp 10) (.tmp 14) 32 rfl (w.heap.size + 1 + 1 + 1) 3 i0 (.int .i64 0) 1 8 Try.underlying32 hi hz0 hz1 hz2 rfl (by decide) v pre.length _ rfl (HROW.out.alloc _) ⟨W.heap.size, 0, none⟩ 1 1 [.int .i64 (hdl x.1)] rfl rfl (cell_one_new _ _ _) (by simp [Value.oneCell']) (by unfold maxLen; omega) (by omega) (by simp; omega) ?_
          intro v' w1 hown' hgrow _
          obtain ⟨g', cap', rfl⟩ := ownsRow_succ hown'
          obtain ⟨hv1, r2, r3, r4⟩ := HR.out w1 _ _ hown' hgrow
          have hc1 := hv1.cell
          have hf1 := hv1.frozen
          have R := Lib.hid (And.intro (show KeepsFrom W0.heap.size W _ from ⟨r2.size, r2.same⟩) (And.intro (show Keeps _ _ W _ from r3) r4))
          clear r2 r3 r4 hown' hgrow hv1
          refine hK _ _ ?_
          clear hK K
          refine wpAnyIn_ready (rs := [6]) (by kernel_rfl) (by simp) (AllReadyIn.cons rfl (fun K hK => ?_) AllReadyIn.nil)
          go_simp
          refine hK _ _ ?_
          clear hK K
          refine wpAnyIn_done (by kernel_rfl) ?_ _
          gi_wp2
          exact R.out
        · go_simp
          gi_wp2_with (refine ⟨trivial, ?_⟩; gi_at_call 28; refine (CallsIn.inRound l (callsIn_wide.2 (HH.out _ HSD.out))).mono ?_; rintro e w' ⟨rfl, rfl⟩)
          refine wpAnyIn_ready (rs := [0, 4]) (by kernel_rfl) (by simp) (AllReadyIn.cons rfl (fun K hK => ?_) (AllReadyIn.cons rfl (fun K hK => ?_) AllReadyIn.nil))
          · go_simp
            refine hK _ _ ?_
            clear hK K
            refine wpAnyIn_ready (rs := [4]) (by kernel_rfl) (by simp) (AllReadyIn.cons rfl (fun K hK => ?_) AllReadyIn.nil)
            go_simp
            refine hK _ _ ?_
            clear hK K
            refine wpAnyIn_ready (rs := [5]) (by kernel_rfl) (by simp) (AllReadyIn.cons rfl (fun K hK => ?_) AllReadyIn.nil)
            refine stepIn_append_own rfl (.tmp 10) (.tmp 14) 32 rfl (w.heap.size + 1 + 1 + 1) 3 i0 (.int .i64 0) 1 8 Try.underlying32 hi hz0 hz1 hz2 rfl (by decide) v pre.length _ rfl (HROW.out.alloc _) ⟨W.heap.size, 0, none⟩ 1 1 [.int .i64 (hdl x.1)] rfl rfl (cell_one_new _ _ _) (by simp [Value.oneCell']) (by unfold maxLen; omega) (by omega) (by simp; omega) ?_
            intro v' w1 hown' hgrow _
            obtain ⟨g', cap', rfl⟩ := ownsRow_succ hown'
            obtain ⟨hv1, r2, r3, r4⟩ := HR.out w1 _ _ hown' hgrow
            have hc1 := hv1.cell
            have hf1 := hv1.frozen
            have R := Lib.hid (And.intro (show KeepsFrom W0.heap.size W _ from ⟨r2.size, r2.same⟩) (And.intro (show Keeps _ _ W _ from r3) r4))
            clear r2 r3 r4 hown' hgrow hv1
            refine hK _ _ ?_
            clear hK K
            refine wpAnyIn_ready (rs := [6]) (by kernel_rfl) (by simp) (AllReadyIn.cons rfl (fun K hK => ?_) AllReadyIn.nil)
            go_simp
            refine hK _ _ ?_
            clear hK K
            refine wpAnyIn_done (by kernel_rfl) ?_ _
            gi_wp2
            exact R.out
          · go_simp
            refine hK _ _ ?_
            clear hK K
            refine wpAnyIn_ready (rs := [0]) (by kernel_rfl) (by simp) (AllReadyIn.cons rfl (fun K hK => ?_) AllReadyIn.nil)
            go_simp
            refine hK _ _ ?_
            clear hK K
            refine wpAnyIn_ready (rs := [5]) (by kernel_rfl) (by simp) (AllReadyIn.cons rfl (fun K hK => ?_) AllReadyIn.nil)
            refine stepIn_append_own rfl (.tmp 10) (.tmp 14) 32 rfl (w.heap.size + 1 + 1 + 1) 3 i0 (.int .i64 0) 1 8 Try.underlying32 hi hz0 hz1 hz2 rfl (by decide) v pre.length _ rfl (HROW.out.alloc _) ⟨W.heap.size, 0, none⟩ 1 1 [.int .i64 (hdl x.1)] rfl rfl (cell_one_new _ _ _) (by simp [Value.oneCell']) (by unfold maxLen; omega) (by omega) (by simp; omega) ?_
            intro v' w1 hown' hgrow _
            obtain ⟨g', cap', rfl⟩ := ownsRow_succ hown'
            obtain ⟨hv1, r2, r3, r4⟩ := HR.out w1 _ _ hown' hgrow
            have hc1 := hv1.cell
            have hf1 := hv1.frozen
            have R := Lib.hid (And.intro (show KeepsFrom W0.heap.size W _ from ⟨r2.size, r2.same⟩) (And.intro (show Keeps _ _ W _ from r3) r4))
            clear r2 r3 r4 hown' hgrow hv1
            refine hK _ _ ?_
            clear hK K
            refine wpAnyIn_ready (rs := [6]) (by kernel_rfl) (by simp) (AllReadyIn.cons rfl (fun K hK => ?_) AllReadyIn.nil)
            go_simp
            refine hK _ _ ?_
            clear hK K
            refine wpAnyIn_done (by kernel_rfl) ?_ _
            gi_wp2
            exact R.out
  case done =>
    rintro D ys W hD rfl ⟨⟨v, hv, hrow, hnil⟩, hbs, hS, hB, h5⟩ hK
    have hc := hv.cell
    gi_wp2
    refine ⟨by simp, .inl ⟨_, _, rfl, run_takeDeferred hK, ?_⟩⟩
    refine ⟨_, results_tmp rfl _ _ _, v, rfl, ?_, hnil.trans (by unfold Sl.live; rw [List.map_eq_nil_iff]), hB.trans (belowK_b (w := w) (Nat.le_refl _) W D _ _ (by omega) hK rfl rfl)⟩
    have := ownsRow_lower (ownsRow_putObj hrow (.deferred none) hK rfl) (b' := w.heap.size) (by omega)
    rw [show s.live.length = (takenTo s s.cells.length).length by unfold Sl.live; rw [List.length_map]]
    exact this
  case stop =>
    rintro D c pre W _ _ h _
    exact h.elim
end Go.Proofs.Ytbmapjbjpgoibaa
