/- What counts in a ring at a time: the contract of total. -/
import Derived.Test.YtbmjpfcnagodaaaRg4
namespace Go.Proofs.Ytbmjpfcnagodaaa
open Go.ChangeShapes Go.WideShapes Go.ChangeAt Go.RowKit Go.Shelf
set_option linter.unusedVariables false
attribute [local go_sem] Oper.semAt_some

set_option maxHeartbeats 1000000 in
theorem going_in (n : Nat) (k l v b a z : Int) (sa ha : Option Addr) (sn sc hn hc : Nat) (w : World) :
    CallsIn Fence.wide n Try.prog 35 #[.agg #[.int .i64 k, .int .i64 l, .int .i64 v, .int .i64 b], .agg #[.int .i64 a, .int .i64 z, .slice sa sn sc, .slice ha hn hc]] w fun e w' => e = .returned (.func (.func 39) #[] #[.pointer (some ⟨w.heap.size, 0, none⟩), .pointer (some ⟨w.heap.size + 1, 0, none⟩)]) ∧ w' = (w.alloc (.cells #[.int .i64 k, .int .i64 l, .int .i64 v, .int .i64 b] 23)).alloc (.cells #[.int .i64 a, .int .i64 z, .slice sa sn sc, .slice ha hn hc] 27) := by
  refine callsIn_of_wp Try.func35 rfl trivial ?_ rfl
  simp only [Try.ntmps35, List.size_toArray, List.length_cons, List.length_nil, Nat.reduceAdd, Nat.reduceSub, Array.replicate_succ, Array.replicate_zero, List.push_toArray, List.append_toArray, List.nil_append, List.cons_append]
  gi_wp2
  go_ret
  exact ⟨rfl, rfl⟩
/-- The blocks that the iterator reads. -/
def SB (gP gC : Nat) (sa : Option Addr) (c : Nat) : Prop := c = gP ∨ c = gC ∨ ∃ o, sa = some ⟨c, o, none⟩
theorem going_stops (n : Nat) (hn : 2 ≤ n) (gP gC : Nat) (k l v b sl a : Int) (sa : Option Addr) (sn sc : Nat) (y : Value) (f : Nat → Int) (w : World)
    (h : RP k l v b sl) (a1 : 0 ≤ a) (a2 : a ≤ 1099511627776) (hs : sn = 0 ∨ (sn : Int) = b) (hG : GoB w gP gC k l v b a sa sn sc y f) :
    SeqStopsK Fence.wide n Try.prog 39 #[.pointer (some ⟨gP, 0, none⟩), .pointer (some ⟨gC, 0, none⟩)] (fun x : Ix sn => #[Value.int .i64 (goesI (a / sl * sl) sl (x.1 + 1)), .int .i64 (valV b (a / sl) f x.1)]) (KeepS (SB gP gC sa)) (fun ys => ys = upL sn sn) (fun pre => ∃ j, j ≤ sn ∧ pre = upL sn j) sn w :=
  fun L J Jx W hW hJ _ hY h0 => going1_in n hn L gP gC (SB gP gC sa) k l v b sl a sa sn sc y f J Jx W.heap.size hJ h a1 a2 hs (.inl rfl) (.inr (.inl rfl)) (fun c o e => .inr (.inr ⟨o, e⟩)) hY W (hG.below hW) h0
/-- What counts of those that have come. -/
def tsum {sn : Nat} (q sl b N : Int) (f : Nat → Int) (t : Int) (pre : List (Ix sn)) : Int := (pre.map fun x => if t < goesI q sl (x.1 + 1) then valV b N f x.1 else 0).sum
theorem tsum_snoc {sn : Nat} (q sl b N : Int) (f : Nat → Int) (t : Int) (pre : List (Ix sn)) (x : Ix sn) : tsum q sl b N f t (pre ++ [x]) = tsum q sl b N f t pre + if t < goesI q sl (x.1 + 1) then valV b N f x.1 else 0 := by
  simp [tsum]
theorem valV_bd {b N : Int} {f : Nat → Int} {sn : Nat} (hb : (sn : Int) = b) (h0 : 0 < sn) (hf : ∀ i, i < sn → 0 ≤ f i ∧ f i ≤ 1048576) (i : Nat) : 0 ≤ valV b N f i ∧ valV b N f i ≤ 1048576 := by
  have m0 : 0 ≤ (N + 1 + (i : Int)) % b := Int.emod_nonneg _ (by omega)
  have m1 : (N + 1 + (i : Int)) % b < b := Int.emod_lt_of_pos _ (by omega)
  exact hf _ (by omega)
theorem tsum_bd {sn : Nat} {q sl b N : Int} {f : Nat → Int} {t : Int} (h : ∀ i, 0 ≤ valV b N f i ∧ valV b N f i ≤ 1048576) (pre : List (Ix sn)) : 0 ≤ tsum q sl b N f t pre ∧ tsum q sl b N f t pre ≤ pre.length * 1048576 := by
  induction pre with
  | nil => simp [tsum]
  | cons x xs ih =>
    have := h x.1
    unfold tsum at *
    simp only [List.map_cons, List.sum_cons, List.length_cons]
    split <;> omega
/-- Between two rounds. -/
def TotI {sn : Nat} (w : World) (q sl b N : Int) (f : Nat → Int) (t : Int) (pre : List (Ix sn)) (W : World) : Prop :=
  (Boxed W (w.heap.size + 1 + 1 + 1) 3 (.int .i64 (tsum q sl b N f t pre)) ∧ Boxed W (w.heap.size + 1 + 1) 3 (.int .i64 t)) ∧ Below w.heap.size w W
theorem keepS_set {S : Nat → Prop} {W : World} {B : Nat} (hB : ¬ S B) (u : Value) : KeepS S W (W.setCell ⟨B, 0, none⟩ u) := fun c cs t fr hc hh => by
  rw [Below.heap_setCell _ _ _ _ (fun e : c = B => hB (e ▸ hc))]; exact hh

set_option maxRecDepth 100000 in
set_option maxHeartbeats 2000000 in
theorem total_any (k l v b sl a z t : Int) (sa ha : Option Addr) (sn sc hn hc : Nat) (f : Nat → Int) (w : World) (h : RP k l v b sl) (a1 : 0 ≤ a) (a2 : a ≤ 1099511627776) (hz : z = 0) (hs : sn = 0 ∨ (sn : Int) = b) (hf : SumsAt w sa sn f) (hb : ∀ i, i < sn → 0 ≤ f i ∧ f i ≤ 1048576) :
    Calls Try.prog 26 #[.agg #[.int .i64 k, .int .i64 l, .int .i64 v, .int .i64 b], .agg #[.int .i64 a, .int .i64 z, .slice sa sn sc, .slice ha hn hc], .int .i64 t] w fun e w' => e = .returned (.int .i64 (tsum (sn := sn) (a / sl * sl) sl b (a / sl) f t (upL sn sn))) ∧ Below w.heap.size w w' := by
  subst hz
  have hsn : sn ≤ 16 := by have := h.bd; rcases hs with e | e <;> omega
  have HR := Lib.hid h
  have HS := Lib.hid hs
  have HF := Lib.hid hf
  have HV := Lib.hid (fun (h0 : 0 < sn) => valV_bd (N := a / sl) (f := f) (hs.resolve_left (by omega)) h0 hb)
  clear h hs hf hb
  refine (callsIn_wide (n := 4)).1 ?_
  refine callsIn_of_wp_marks Try.func26 rfl trivial ?_ rfl
  simp only [Try.ntmps26, List.size_toArray, List.length_cons, List.length_nil, Nat.reduceAdd, Nat.reduceSub, Array.replicate_succ, Array.replicate_zero, List.push_toArray, List.append_toArray, List.nil_append, List.cons_append]
  gi_wp2
  refine ⟨trivial, ?_⟩
  refine (going_in _ k l v b a 0 sa ha sn sc hn hc _).mono ?_
  rintro e w1 ⟨rfl, rfl⟩
  gi_wp2
  obtain ⟨W0, hW0⟩ : ∃ W0, ((((((w.alloc (.cells #[.int .i64 k, .int .i64 l, .int .i64 v, .int .i64 b] 23)).alloc (.cells #[.int .i64 a, .int .i64 0, .slice sa sn sc, .slice ha hn hc] 27)).alloc (.cells #[.int .i64 t] 3)).alloc (.cells #[.int .i64 0] 3)).alloc (.cells #[.int .i64 k, .int .i64 l, .int .i64 v, .int .i64 b] 23)).alloc (.cells #[.int .i64 a, .int .i64 0, .slice sa sn sc, .slice ha hn hc] 27)) = W0 := ⟨_, rfl⟩
  rw [hW0]
  have hsz : W0.heap.size = w.heap.size + 1 + 1 + 1 + 1 + 1 + 1 := by rw [← hW0]; simp
  have hB0 : Below w.heap.size w W0 := by rw [← hW0]; exact ((((((Below.refl _ w).alloc (Nat.le_refl _) _).alloc (by simp) _).alloc (by simp; omega) _).alloc (by simp; omega) _).alloc (by simp; omega) _).alloc (by simp; omega) _
  have bT : Boxed W0 (w.heap.size + 1 + 1) 3 (.int .i64 t) := by
    have := (((Boxed.new ((w.alloc (.cells #[.int .i64 k, .int .i64 l, .int .i64 v, .int .i64 b] 23)).alloc (.cells #[.int .i64 a, .int .i64 0, .slice sa sn sc, .slice ha hn hc] 27)) 3 (.int .i64 t)).alloc (.cells #[.int .i64 0] 3)).alloc (.cells #[.int .i64 k, .int .i64 l, .int .i64 v, .int .i64 b] 23)).alloc (.cells #[.int .i64 a, .int .i64 0, .slice sa sn sc, .slice ha hn hc] 27)
    rw [World.size_alloc, World.size_alloc, hW0] at this
    exact this
  have bN : Boxed W0 (w.heap.size + 1 + 1 + 1) 3 (.int .i64 0) := by
    have := ((Boxed.new ((((w.alloc (.cells #[.int .i64 k, .int .i64 l, .int .i64 v, .int .i64 b] 23)).alloc (.cells #[.int .i64 a, .int .i64 0, .slice sa sn sc, .slice ha hn hc] 27)).alloc (.cells #[.int .i64 t] 3))) 3 (.int .i64 0)).alloc (.cells #[.int .i64 k, .int .i64 l, .int .i64 v, .int .i64 b] 23)).alloc (.cells #[.int .i64 a, .int .i64 0, .slice sa sn sc, .slice ha hn hc] 27)
    rw [World.size_alloc, World.size_alloc, World.size_alloc, hW0] at this
    exact this
  have hp0 : Has W0 (w.heap.size + 1 + 1 + 1 + 1) 23 [.int .i64 k, .int .i64 l, .int .i64 v, .int .i64 b] := by
    have := (Has.made ((((w.alloc (.cells #[.int .i64 k, .int .i64 l, .int .i64 v, .int .i64 b] 23)).alloc (.cells #[.int .i64 a, .int .i64 0, .slice sa sn sc, .slice ha hn hc] 27)).alloc (.cells #[.int .i64 t] 3)).alloc (.cells #[.int .i64 0] 3)) 23 [.int .i64 k, .int .i64 l, .int .i64 v, .int .i64 b]).alloc (.cells #[.int .i64 a, .int .i64 0, .slice sa sn sc, .slice ha hn hc] 27)
    rw [World.size_alloc, World.size_alloc, World.size_alloc, World.size_alloc] at this
    rw [← hW0]
    exact this
  have hc0 : Has W0 (w.heap.size + 1 + 1 + 1 + 1 + 1) 27 [.int .i64 a, .int .i64 0, .slice sa sn sc, .slice ha hn hc] := by
    have := Has.made (((((w.alloc (.cells #[.int .i64 k, .int .i64 l, .int .i64 v, .int .i64 b] 23)).alloc (.cells #[.int .i64 a, .int .i64 0, .slice sa sn sc, .slice ha hn hc] 27)).alloc (.cells #[.int .i64 t] 3)).alloc (.cells #[.int .i64 0] 3)).alloc (.cells #[.int .i64 k, .int .i64 l, .int .i64 v, .int .i64 b] 23)) 27 [.int .i64 a, .int .i64 0, .slice sa sn sc, .slice ha hn hc]
    rw [World.size_alloc, World.size_alloc, World.size_alloc, World.size_alloc, World.size_alloc] at this
    rw [← hW0]
    exact this
  have hG0 : GoB W0 (w.heap.size + 1 + 1 + 1 + 1) (w.heap.size + 1 + 1 + 1 + 1 + 1) k l v b a sa sn sc (.slice ha hn hc) f := ⟨hp0, hc0, HF.out.below hB0⟩
  have hI : OwnFrom W0.heap.size (TotI (sn := sn) w (a / sl * sl) sl b (a / sl) f t) := OwnFrom.and (OwnFrom.and (Own.from (boxed_own _ _ (fun pre => Value.int .i64 (tsum (a / sl * sl) sl b (a / sl) f t pre))) _) (Own.from (boxed_own _ _ (fun _ => Value.int .i64 t)) _)) (ownFrom_below (Nat.le_refl _) (by omega))
  have hI0 : TotI (sn := sn) w (a / sl * sl) sl b (a / sl) f t [] W0 := ⟨⟨bN, bT⟩, hB0⟩
  have hNS : ¬ SB (w.heap.size + 1 + 1 + 1 + 1) (w.heap.size + 1 + 1 + 1 + 1 + 1) sa (w.heap.size + 1 + 1 + 1) ∨ sn = 0 := by
    by_cases h0 : sn = 0
    · exact .inr h0
    · refine .inl ?_
      obtain ⟨c, o, e, hl, _⟩ := HF.out (by omega)
      rintro (q | q | ⟨o', q⟩)
      · omega
      · omega
      · rw [e] at q; cases q; omega
  have hseq := going_stops (4 - 1) (by omega) (w.heap.size + 1 + 1 + 1 + 1) (w.heap.size + 1 + 1 + 1 + 1 + 1) k l v b sl a sa sn sc (.slice ha hn hc) f W0 HR.out a1 a2 HS.out hG0
  clear hW0
  refine wpIn_rangeFunc_ownG (F := Fence.wide) (n := 4) (w := W0) rfl (by omega) (gf := 39) (lb := #[.pointer (some ⟨w.heap.size + 1 + 1 + 1 + 1, 0, none⟩), .pointer (some ⟨w.heap.size + 1 + 1 + 1 + 1 + 1, 0, none⟩)]) rfl trivial (enters_of Try.func39 (by kernel_rfl) rfl)
    hseq (fun h k => h.trans k) (fun W l o o' _ hl ho _ => KeepS.putObj o' hl ho) (Below.refl _ _) (fun _ => rfl)
    (TotI w (a / sl * sl) sl b (a / sl) f t) (fun _ _ _ => False) hI (fun _ _ _ _ _ hs _ _ => hs) hI0
    (fun x => { tmps := #[.agg #[.int .i64 k, .int .i64 l, .int .i64 v, .int .i64 b], .agg #[.int .i64 a, .int .i64 0, .slice sa sn sc, .slice ha hn hc], .int .i64 t, .pointer (some ⟨w.heap.size, 0, none⟩), .pointer (some ⟨w.heap.size + 1, 0, none⟩), .pointer (some ⟨w.heap.size + 1 + 1, 0, none⟩), .int .i64 0, .pointer (some ⟨w.heap.size + 1 + 1 + 1, 0, none⟩), .int .i64 (goesI (a / sl * sl) sl (x.1 + 1)), .int .i64 (valV b (a / sl) f x.1), .agg #[.int .i64 k, .int .i64 l, .int .i64 v, .int .i64 b], .agg #[.int .i64 a, .int .i64 0, .slice sa sn sc, .slice ha hn hc], .func (.func 39) #[] #[.pointer (some ⟨w.heap.size + 1 + 1 + 1 + 1, 0, none⟩), .pointer (some ⟨w.heap.size + 1 + 1 + 1 + 1 + 1, 0, none⟩)], .int .i64 (goesI (a / sl * sl) sl (x.1 + 1)), .int .i64 (valV b (a / sl) f x.1), undef, undef, undef, undef, undef, undef, undef], defers := [] }) ?assign ?body ?done ?stop
  case assign =>
    intro l x W K hK
    gi_wp2
    exact hK
  case body =>
    rintro l pre x W ⟨⟨hN, hT⟩, hB⟩ hlp
    have cN := hN.cell
    have fN := hN.frozen
    have cT := hT.cell
    have hv := HV.out (by have := x.2; omega)
    have v1 := hv x.1
    have ⟨t1, t2⟩ := tsum_bd (q := a / sl * sl) (sl := sl) (t := t) hv pre
    have HN := Lib.hid hN
    have HT := Lib.hid hT
    have HB := Lib.hid hB
    have E := Lib.hid (tsum_snoc (a / sl * sl) sl b (a / sl) f t pre x)
    have NS := Lib.hid (hNS.resolve_right (by have := x.2; omega))
    clear hN hT hB hv hNS
    generalize tsum (a / sl * sl) sl b (a / sl) f t pre = c at *
    generalize valV b (a / sl) f x.1 = V at *
    generalize goesI (a / sl * sl) sl (x.1 + 1) = G at *
    obtain ⟨v1, v2⟩ := v1
    by_cases ht : t < G
    · gi_wp2
      refine ⟨(KeepsOthers.setCell _ _ _).from _, keepS_set NS.out _, ⟨⟨?_, HT.out.other (by omega) _⟩, HB.out.setCell (p := ⟨_, 0, none⟩) (by show _ ≤ _; simp; omega) _⟩⟩
      rw [E.out, if_pos ht]
      exact HN.out.set _
    · gi_wp2
      refine ⟨(KeepsOthers.refl _).from _, fun _ _ _ _ _ hh => hh, ⟨⟨?_, HT.out⟩, HB.out⟩⟩
      rw [E.out, if_neg (by omega), Int.add_zero]
      exact HN.out
  case done =>
    rintro D ys W hD rfl ⟨⟨hN, hT⟩, hB⟩ hK
    have cN := hN.cell
    gi_wp2
    refine ⟨by simp, .inl ⟨_, _, rfl, run_takeDeferred hK, ?_⟩⟩
    exact ⟨_, results_tmp rfl _ _ _, rfl, hB.trans (belowK_b (w := w) (Nat.le_refl _) W D _ _ (by omega) hK rfl rfl)⟩
  case stop =>
    rintro D c pre W _ _ h _
    exact h.elim
end Go.Proofs.Ytbmjpfcnagodaaa
