/- A ring without what does not count: the contract of turned. -/
import Derived.Test.YtbmjpfcnagodaaaRgPure4
import Derived.Test.YtbmjpfcnagodaaaRg10
import Derived.Test.YtbmjpfcnagodaaaCel1
import Derived.Test.YtbmjpfcnagodaaaOpen
import Derived.Sort.CutIn
namespace Go.Proofs.Ytbmjpfcnagodaaa
open Go.ChangeShapes Go.WideShapes Go.ChangeAt Go.RowKit Go.Shelf
set_option linter.unusedVariables false
attribute [local go_sem] Oper.semAt_some


theorem infoInt0 : (Try.prog.info? 3).map (fun i => (i.zero, i.size, i.bytes)) = some (some (.int .i64 0), 1, 8) := by kernel_rfl
theorem run_mkI (k : Nat) (hk : k ≤ 64) (u : World) : (Instr.makeSlice 24 (.int .i64 (k : Int)) (.int .i64 (k : Int))).run Try.prog u =
      .ok (.slice (some ⟨u.heap.size, 0, none⟩) k k) (u.alloc (.cells (rowF .i64 (fun _ => 0) k).toArray 3)) := by
  obtain ⟨i0, hi, hz0, hz1, hz2⟩ := info_parts infoInt0
  have h := run_make (P := Try.prog) u 24 3 i0 (.int .i64 0) Try.underlying24 hi hz0 .i64 .i64 (k : Int) (k : Int) (by omega) (Int.le_refl _) (by rw [hz2]; omega) (by omega)
  rw [← madeRow]
  simpa [hz1, Value.cells] using h
theorem le3 (n : Nat) : n ≤ n + 1 + 1 + 1 := by omega
/-- What lies in memory while turned goes on. -/
structure TurB (w0 : World) (k l v b T : Int) (B : Nat) (f : Nat → Int) (w : World) : Prop where
  p : Has w w0.heap.size 23 [.int .i64 k, .int .i64 l, .int .i64 v, .int .i64 b]
  t : Boxed w (w0.heap.size + 1 + 1) 3 (.int .i64 T)
  r : Has w (w0.heap.size + 1 + 1 + 1) 27 [.int .i64 0, .int .i64 0, .slice none 0 0, .slice none 0 0]
  s : Has w (w0.heap.size + 1 + 1 + 1 + 1) 3 (rowF .i64 f B)
  x : Boxed w (w0.heap.size + 1 + 1 + 1 + 1 + 1) 24 (.slice (some ⟨w0.heap.size + 1 + 1 + 1 + 1, 0, none⟩) B B)
  be : Below w0.heap.size w0 w
section
variable {w0 w w' : World} {k l v b T : Int} {B : Nat} {f : Nat → Int}
theorem TurB.step (h : TurB w0 k l v b T B f w) (hb : Below w.heap.size w w') : TurB w0 k l v b T B f w' :=
  ⟨h.p.step hb, Has.step (l := [_]) h.t hb, h.r.step hb, h.s.step hb, Has.step (l := [_]) h.x hb, h.be.trans (hb.mono h.be.size)⟩
end
theorem has_size {w : World} {g : Nat} {t : TypeId} {l : List Value} (h : Has (w.alloc (.cells l.toArray t)) w.heap.size t l) {n : Nat} (e : w.heap.size = n) : Has (w.alloc (.cells l.toArray t)) n t l := by subst e; exact h
theorem TurB.made (w : World) (k l v a T : Int) (sa ha : Option Addr) (sn sc hc B : Nat) : TurB w k l v (B : Int) T B (fun _ => 0) ((((((w.alloc (.cells #[.int .i64 k, .int .i64 l, .int .i64 v, .int .i64 (B : Int)] 23)).alloc (.cells #[.int .i64 a, .int .i64 0, .slice sa sn sc, .slice ha 0 hc] 27)).alloc (.cells #[.int .i64 T] 3)).alloc (.cells #[.int .i64 0, .int .i64 0, .slice none 0 0, .slice none 0 0] 27)).alloc (.cells (rowF .i64 (fun _ => 0) B).toArray 3)).alloc (.cells #[.slice (some ⟨w.heap.size + 1 + 1 + 1 + 1, 0, none⟩) B B] 24)) := by
  have n1 : (w.alloc (.cells #[.int .i64 k, .int .i64 l, .int .i64 v, .int .i64 (B : Int)] 23)).heap.size = w.heap.size + 1 := by simp
  refine ⟨(((((Has.made w 23 [.int .i64 k, .int .i64 l, .int .i64 v, .int .i64 (B : Int)]).alloc _).alloc _).alloc _).alloc _).alloc _, ?_, ?_, ?_, ?_, ?_⟩
  · refine ((Has.alloc (l := [_]) (has_size (g := 0) (Has.made _ 3 [.int .i64 T]) (by simp)) _).alloc _).alloc _
  · refine (Has.alloc (has_size (g := 0) (Has.made _ 27 [.int .i64 0, .int .i64 0, .slice none 0 0, .slice none 0 0]) (by simp)) _).alloc _
  · exact Has.alloc (has_size (g := 0) (Has.made _ 3 (rowF .i64 (fun _ => 0) B)) (by simp)) _
  · exact has_size (g := 0) (l := [_]) (Has.made _ 24 [.slice (some ⟨w.heap.size + 1 + 1 + 1 + 1, 0, none⟩) B B]) (by simp)
  · exact ((((((Below.refl _ w).alloc (Nat.le_refl _) _).alloc (by simp) _).alloc (by simp; omega) _).alloc (by simp; omega) _).alloc (by simp; omega) _).alloc (by simp; omega) _
theorem has_own {β : Type} (B : Nat) (t : TypeId) (f : β → List Value) : Own (fun s W => Has W B t (f s)) := fun s X Y row hs hg hrow => by
  have hlt := hs.lt
  show Y.heap[B]? = _
  rw [hg.block B hlt (fun e' => by obtain ⟨o, ho, hc⟩ := hrow B e'.symm; rw [show X.heap[B]? = _ from hs] at ho; cases ho; cases hc)]
  exact hs
/-- Between two rounds. -/
def TurI {sn : Nat} (w : World) (k l v : Int) (B : Nat) (T q sl N : Int) (f : Nat → Int) (pre : List (Ix sn)) (W : World) : Prop :=
  ((((Has W w.heap.size 23 [.int .i64 k, .int .i64 l, .int .i64 v, .int .i64 (B : Int)] ∧ Boxed W (w.heap.size + 1 + 1) 3 (.int .i64 T)) ∧ Has W (w.heap.size + 1 + 1 + 1) 27 [.int .i64 0, .int .i64 0, .slice none 0 0, .slice none 0 0]) ∧ Has W (w.heap.size + 1 + 1 + 1 + 1) 3 (rowF .i64 (turnL q sl (B : Int) N f T pre) B)) ∧ Boxed W (w.heap.size + 1 + 1 + 1 + 1 + 1) 24 (.slice (some ⟨w.heap.size + 1 + 1 + 1 + 1, 0, none⟩) B B)) ∧ Below w.heap.size w W
theorem turI_own {sn : Nat} {w : World} {k l v : Int} {B : Nat} {T q sl N : Int} {f : Nat → Int} {G : Nat} (hG : w.heap.size ≤ G) : OwnFrom G (TurI (sn := sn) w k l v B T q sl N f) :=
  OwnFrom.and (OwnFrom.and (OwnFrom.and (OwnFrom.and (OwnFrom.and (Own.from (has_own _ _ (fun _ => _)) _) (Own.from (boxed_own _ _ (fun _ => Value.int .i64 T)) _)) (Own.from (has_own _ _ (fun _ => _)) _)) (Own.from (has_own _ _ (fun pre => rowF .i64 (turnL q sl (B : Int) N f T pre) B)) _)) (Own.from (boxed_own _ _ (fun _ => Value.slice (some ⟨w.heap.size + 1 + 1 + 1 + 1, 0, none⟩) B B)) _)) (ownFrom_below (Nat.le_refl _) hG)
set_option maxRecDepth 100000 in
set_option maxHeartbeats 4000000 in
theorem turned_any (k l v sl a T : Int) (sa ha : Option Addr) (sn sc hc B : Nat) (f : Nat → Int) (w : World) (h : RP k l v (B : Int) sl) (a1 : 0 ≤ a) (a2 : a ≤ 1099511627776) (t1 : a ≤ T) (t2 : T ≤ 1099511627776) (hm : MaySums l (B : Int) (a / sl) sn f) (hf : SumsAt w sa sn f) :
    Calls Try.prog 23 #[.agg #[.int .i64 k, .int .i64 l, .int .i64 v, .int .i64 (B : Int)], .agg #[.int .i64 a, .int .i64 0, .slice sa sn sc, .slice ha 0 hc], .int .i64 T] w fun e w' => ∃ g, e = .returned (.agg #[.int .i64 T, .int .i64 0, .slice (some ⟨g, 0, none⟩) B B, .slice none 0 0]) ∧ w.heap.size ≤ g ∧ Has w' g 3 (rowF .i64 (turnV (B : Int) (a / sl) (T / sl) sn f) B) ∧ Below w.heap.size w w' := by
  obtain ⟨l1, l2, v1, v2, b1, b2, s1, s2, _⟩ := h.bd
  obtain ⟨d0, d1⟩ := div_bd a1 s1
  have hsn : sn ≤ 16 := by rcases hm.len with e | e <;> omega
  have hdt : a / sl ≤ T / sl := Int.ediv_le_ediv (by omega) t1
  have HR := Lib.hid h
  have HM := Lib.hid hm
  have HF := Lib.hid hf
  have TA := Lib.hid (fun j hj => turnL_all (t := T) s1 b1 d0 hdt hm j hj)
  have HP := Lib.hid (TurB.made w k l v a T sa ha sn sc hc B)
  have mk := run_mkI B (by omega)
  have gb := Lib.hid (fun i => goesI_bd (q := a / sl * sl) (sl := sl) (Int.mul_nonneg d0 (by omega)) s1 s2 i)
  have m1 : a / sl * sl ≤ a := Int.ediv_mul_le a (by omega)
  have m2 : 0 ≤ a / sl * sl := Int.mul_nonneg d0 (by omega)
  clear h hm hf
  refine (callsIn_wide (n := 6)).1 ?_
  refine callsIn_of_wp_marks Try.func23 rfl trivial ?_ rfl
  simp only [Try.ntmps23, List.size_toArray, List.length_cons, List.length_nil, Nat.reduceAdd, Nat.reduceSub, Array.replicate_succ, Array.replicate_zero, List.push_toArray, List.append_toArray, List.nil_append, List.cons_append]
  gi_wp2
  refine ⟨trivial, ?_⟩
  refine (going_in _ k l v (B : Int) a 0 sa ha sn sc 0 hc _).mono ?_
  rintro e w1 ⟨rfl, rfl⟩
  gi_wp2
  obtain ⟨wc, hwc⟩ : ∃ wc, ((((((w.alloc (.cells #[.int .i64 k, .int .i64 l, .int .i64 v, .int .i64 (B : Int)] 23)).alloc (.cells #[.int .i64 a, .int .i64 0, .slice sa sn sc, .slice ha 0 hc] 27)).alloc (.cells #[.int .i64 T] 3)).alloc (.cells #[.int .i64 0, .int .i64 0, .slice none 0 0, .slice none 0 0] 27)).alloc (.cells (rowF .i64 (fun _ => 0) B).toArray 3)).alloc (.cells #[.slice (some ⟨w.heap.size + 1 + 1 + 1 + 1, 0, none⟩) B B] 24)) = wc := ⟨_, rfl⟩
  have hs6 : wc.heap.size = w.heap.size + 1 + 1 + 1 + 1 + 1 + 1 := by rw [← hwc]; simp
  rw [hwc] at HP ⊢
  clear hwc mk
  rw [← hs6]
  have hsz : ((wc.alloc (.cells #[.int .i64 k, .int .i64 l, .int .i64 v, .int .i64 (B : Int)] 23)).alloc (.cells #[.int .i64 a, .int .i64 0, .slice sa sn sc, .slice ha 0 hc] 27)).heap.size = wc.heap.size + 1 + 1 := by simp
  have hbb : Below wc.heap.size wc ((wc.alloc (.cells #[.int .i64 k, .int .i64 l, .int .i64 v, .int .i64 (B : Int)] 23)).alloc (.cells #[.int .i64 a, .int .i64 0, .slice sa sn sc, .slice ha 0 hc] 27)) := ((Below.refl _ _).alloc (Nat.le_refl _) _).alloc (by simp) _
  have hG0 : GoB ((wc.alloc (.cells #[.int .i64 k, .int .i64 l, .int .i64 v, .int .i64 (B : Int)] 23)).alloc (.cells #[.int .i64 a, .int .i64 0, .slice sa sn sc, .slice ha 0 hc] 27)) wc.heap.size (wc.heap.size + 1) k l v (B : Int) a sa sn sc (.slice ha 0 hc) f :=
    ⟨made1 wc 23 [.int .i64 k, .int .i64 l, .int .i64 v, .int .i64 (B : Int)] _, made2 wc 27 23 [.int .i64 a, .int .i64 0, .slice sa sn sc, .slice ha 0 hc] _, (HF.out.below HP.out.be).below hbb⟩
  have HZ2 := HP.out.step hbb
  obtain ⟨W0, hW0⟩ : ∃ W0, ((wc.alloc (.cells #[.int .i64 k, .int .i64 l, .int .i64 v, .int .i64 (B : Int)] 23)).alloc (.cells #[.int .i64 a, .int .i64 0, .slice sa sn sc, .slice ha 0 hc] 27)) = W0 := ⟨_, rfl⟩
  rw [hW0] at hsz hG0 HZ2 ⊢
  clear hW0 hbb
  have hseq := going_stops (6 - 1) (by omega) wc.heap.size (wc.heap.size + 1) k l v (B : Int) sl a sa sn sc (.slice ha 0 hc) f W0 HR.out a1 a2 HM.out.len hG0
  have hNS : 0 < sn → ¬ SB wc.heap.size (wc.heap.size + 1) sa (w.heap.size + 1 + 1 + 1 + 1) := by
    intro h0
    obtain ⟨c, o, e, hl, _⟩ := HF.out h0
    rintro (q | q | ⟨o', q⟩)
    · omega
    · omega
    · rw [e] at q; cases q; omega
  have hI : OwnFrom W0.heap.size (TurI (sn := sn) w k l v B T (a / sl * sl) sl (a / sl) f) := turI_own (by omega)
  have hI0 : TurI (sn := sn) w k l v B T (a / sl * sl) sl (a / sl) f [] W0 := ⟨⟨⟨⟨⟨HZ2.p, HZ2.t⟩, HZ2.r⟩, HZ2.s⟩, HZ2.x⟩, HZ2.be⟩
  have HS6 := Lib.hid hs6
  have HSZ := Lib.hid hsz
  clear HP HZ2 hG0 hs6 hsz
  refine wpIn_rangeFunc_ownG (F := Fence.wide) (n := 6) (w := W0) rfl (by omega) (gf := 39) (lb := #[.pointer (some ⟨wc.heap.size, 0, none⟩), .pointer (some ⟨wc.heap.size + 1, 0, none⟩)]) rfl trivial (enters_of Try.func39 (by kernel_rfl) rfl)
    hseq (fun h k => h.trans k) (fun W l o o' _ hl ho _ => KeepS.putObj o' hl ho) (Below.refl _ _) (fun _ => rfl)
    (TurI w k l v B T (a / sl * sl) sl (a / sl) f) (fun _ _ _ => False) hI (fun _ _ _ _ _ hs _ _ => hs) hI0
    (fun x => { tmps := #[.agg #[.int .i64 k, .int .i64 l, .int .i64 v, .int .i64 (B : Int)], .agg #[.int .i64 a, .int .i64 0, .slice sa sn sc, .slice ha 0 hc], .int .i64 T, .pointer (some ⟨w.heap.size, 0, none⟩), .pointer (some ⟨w.heap.size + 1, 0, none⟩), .pointer (some ⟨w.heap.size + 1 + 1, 0, none⟩), .pointer (some ⟨w.heap.size + 1 + 1 + 1, 0, none⟩), .pointer (some ⟨w.heap.size + 1 + 1 + 1 + 1 + 1, 0, none⟩), .int .i64 (goesI (a / sl * sl) sl (x.1 + 1)), .int .i64 (valV (B : Int) (a / sl) f x.1), .pointer (some ⟨w.heap.size, 3, none⟩), .int .i64 (B : Int), .slice (some ⟨w.heap.size + 1 + 1 + 1 + 1, 0, none⟩) B B, .agg #[.int .i64 k, .int .i64 l, .int .i64 v, .int .i64 (B : Int)], .agg #[.int .i64 a, .int .i64 0, .slice sa sn sc, .slice ha 0 hc], .func (.func 39) #[] #[.pointer (some ⟨wc.heap.size, 0, none⟩), .pointer (some ⟨wc.heap.size + 1, 0, none⟩)], .int .i64 (goesI (a / sl * sl) sl (x.1 + 1)), .int .i64 (valV (B : Int) (a / sl) f x.1), undef, undef, undef, undef, undef, undef, undef, undef, undef, undef, undef, undef], defers := [] }) ?assign ?body ?done ?stop
  case assign =>
    intro l x W K hK
    gi_wp2
    exact hK
  case body =>
    rintro l' pre x W ⟨⟨⟨⟨⟨hp, ht⟩, hr⟩, hs⟩, hx⟩, hB⟩ hlp
    have hx2 := x.2
    have hsb : (sn : Int) = (B : Int) := HM.out.len.resolve_left (by omega)
    have cT := ht.cell
    have cX := hx.cell
    obtain ⟨c0, c1, c2, c3⟩ := hp.four
    obtain ⟨g1, g2⟩ := gb.out (x.1 + 1)
    have E := Lib.hid (turnL_snoc (a / sl * sl) sl (B : Int) (a / sl) f T pre x)
    have NS := Lib.hid (hNS (by omega))
    have R := Lib.hid (show TurI w k l v B T (a / sl * sl) sl (a / sl) f pre W from ⟨⟨⟨⟨⟨hp, ht⟩, hr⟩, hs⟩, hx⟩, hB⟩)
    have PL := Lib.hid (fun u => place_any k l v (B : Int) sl (goesI (a / sl * sl) sl (x.1 + 1)) u HR.out (by omega) (by omega))
    have hpl : goesI (a / sl * sl) sl (x.1 + 1) / sl % (B : Int) = (a / sl + 1 + (x.1 : Int)) % (B : Int) := by
      rw [goesI_eq, Int.mul_ediv_cancel _ (by omega), show a / sl + ((x.1 + 1 : Nat) : Int) = a / sl + 1 + (x.1 : Int) by omega]
    rw [hpl] at PL
    have r0 : 0 ≤ (a / sl + 1 + (x.1 : Int)) % (B : Int) := Int.emod_nonneg _ (by omega)
    have r1 : (a / sl + 1 + (x.1 : Int)) % (B : Int) < (B : Int) := Int.emod_lt_of_pos _ (by omega)
    obtain ⟨r, hr'⟩ : ∃ r : Nat, (a / sl + 1 + (x.1 : Int)) % (B : Int) = (r : Int) := ⟨((a / sl + 1 + (x.1 : Int)) % (B : Int)).toNat, by omega⟩
    rw [hr'] at PL
    have ER : ((a / sl + 1 + (x.1 : Int)) % (B : Int)).toNat = r := by omega
    have B0 : (0 : Int) ≤ (r : Int) := by omega
    have B1 : (r : Int) < (B : Int) := by omega
    have B2 : r < B := by omega
    rw [ER] at E
    have HRS := Lib.hid hs
    have HX := Lib.hid hx
    clear hp ht hr hs hx hB hNS hseq hI hI0 hpl hr' r0 r1 ER
    generalize valV (B : Int) (a / sl) f x.1 = V at *
    generalize goesI (a / sl * sl) sl (x.1 + 1) = G at *
    by_cases hc : T < G
    · have P := Lib.hid (fun W' (hb : Below W.heap.size W W') => by
        have q1 : KeepsFrom W0.heap.size W (W'.setCell ⟨w.heap.size + 1 + 1 + 1 + 1, r, none⟩ (.int .i64 V)) := by
          refine ⟨by have := hb.size; simpa using this, fun i o hi ho hc' => ?_⟩
          have hl := (Array.getElem?_eq_some_iff.1 ho).1
          have e6 := HS6.out
          have ez := HSZ.out
          rw [Below.heap_setCell _ _ _ _ (show i ≠ w.heap.size + 1 + 1 + 1 + 1 by omega), hb.block i hl]; exact ho
        have q2 : KeepS (SB wc.heap.size (wc.heap.size + 1) sa) W (W'.setCell ⟨w.heap.size + 1 + 1 + 1 + 1, r, none⟩ (.int .i64 V)) := by
          intro i c t fr hS hh
          have hl := (Array.getElem?_eq_some_iff.1 hh).1
          rw [Below.heap_setCell _ _ _ _ (show i ≠ w.heap.size + 1 + 1 + 1 + 1 from fun e => NS.out (e ▸ hS)), hb.block i hl]; exact hh
        have q3 : TurI w k l v B T (a / sl * sl) sl (a / sl) f (pre ++ [x]) (W'.setCell ⟨w.heap.size + 1 + 1 + 1 + 1, r, none⟩ (.int .i64 V)) := by
          obtain ⟨⟨⟨⟨⟨hp, ht⟩, hr⟩, hs⟩, hx⟩, hB⟩ := R.out
          refine ⟨⟨⟨⟨⟨(hp.step hb).apart (p := ⟨_, r, none⟩) (show w.heap.size ≠ w.heap.size + 1 + 1 + 1 + 1 by omega) _, Has.apart (l := [_]) (p := ⟨_, r, none⟩) (box_step ht hb) (show w.heap.size + 1 + 1 ≠ w.heap.size + 1 + 1 + 1 + 1 by omega) _⟩, (hr.step hb).apart (p := ⟨_, r, none⟩) (show w.heap.size + 1 + 1 + 1 ≠ w.heap.size + 1 + 1 + 1 + 1 by omega) _⟩, ?_⟩, Has.apart (l := [_]) (p := ⟨_, r, none⟩) (box_step hx hb) (show w.heap.size + 1 + 1 + 1 + 1 + 1 ≠ w.heap.size + 1 + 1 + 1 + 1 by omega) _⟩, (hB.trans (hb.mono hB.size)).setCell (p := ⟨_, r, none⟩) (show w.heap.size ≤ w.heap.size + 1 + 1 + 1 + 1 by omega) _⟩
          rw [E.out, if_pos hc]
          have := (hs.step hb).store r (.int .i64 V)
          rw [rowF_set] at this
          exact this
        exact And.intro q1 (And.intro q2 q3))
      gi_wp2
      gi_region_with (first | (refine ⟨trivial, ?_⟩; (refine (CallsIn.inRound l' (callsIn_wide.2 (PL.out _))).mono ?_); rintro e w2 ⟨rfl, hb⟩; have HB := Lib.hid hb; have y0 : w2.cell? ⟨w.heap.size + 1 + 1 + 1 + 1 + 1, 0, none⟩ = some (.slice (some ⟨w.heap.size + 1 + 1 + 1 + 1, 0, none⟩) B B) := (box_step HX.out (below_undrew hb)).cell; have y1 : w2.cell? ⟨w.heap.size + 1 + 1 + 1 + 1, r, none⟩ = some (.int .i64 (turnL (a / sl * sl) sl (B : Int) (a / sl) f T pre r)) := ((HRS.out.step (below_undrew hb)).cell r).trans (rowF_get _ _ _ _ B2); have y2 : w2.frozen? ⟨w.heap.size + 1 + 1 + 1 + 1, r, none⟩ = false := (HRS.out.step (below_undrew hb)).loose r; clear hb))
      all_goals (gi_wp2; exact P.out _ (below_undrew HB.out))
    · gi_wp2
      refine ⟨(KeepsOthers.refl _).from _, fun _ _ _ _ _ hh => hh, ?_⟩
      have := R.out
      unfold TurI at this ⊢
      rw [E.out, if_neg (by omega)]
      exact this
  case done =>
    rintro D ys W hD rfl ⟨⟨⟨⟨⟨hp, ht⟩, hr⟩, hs⟩, hx⟩, hB⟩ hK
    have cT := ht.cell
    have cX := hx.cell
    obtain ⟨c0, c1, c2, c3⟩ := hr.four
    have fr := hr.loose
    have HS := Lib.hid (show Has W (w.heap.size + 1 + 1 + 1 + 1) 3 (rowF .i64 (turnV (B : Int) (a / sl) (T / sl) sn f) B) by
      rw [rowF_congr .i64 (fun j hj => TA.out j (by omega))] at hs
      exact hs)
    have HB := Lib.hid hB
    have HRR := Lib.hid hr
    clear hs hB hx ht hp hr
    gi_wp2
    have H4 : Has ((((W.setCell ⟨w.heap.size + 1 + 1 + 1, 0, none⟩ (.int .i64 T)).setCell ⟨w.heap.size + 1 + 1 + 1, 1, none⟩ (.int .i64 0)).setCell ⟨w.heap.size + 1 + 1 + 1, 2, none⟩ (.slice (some ⟨w.heap.size + 1 + 1 + 1 + 1, 0, none⟩) B B)).setCell ⟨w.heap.size + 1 + 1 + 1, 3, none⟩ (.slice none 0 0)) (w.heap.size + 1 + 1 + 1) 27 [.int .i64 T, .int .i64 0, .slice (some ⟨w.heap.size + 1 + 1 + 1 + 1, 0, none⟩) B B, .slice none 0 0] := by
      have h4 := (((HRR.out.store 0 (.int .i64 T)).store 1 (.int .i64 0)).store 2 (.slice (some ⟨w.heap.size + 1 + 1 + 1 + 1, 0, none⟩) B B)).store 3 (.slice none 0 0)
      simpa using h4
    have H5 := (((HS.out.apart (p := ⟨w.heap.size + 1 + 1 + 1, 0, none⟩) (by show _ ≠ _; simp) (.int .i64 T)).apart (p := ⟨w.heap.size + 1 + 1 + 1, 1, none⟩) (by show _ ≠ _; simp) (.int .i64 0)).apart (p := ⟨w.heap.size + 1 + 1 + 1, 2, none⟩) (by show _ ≠ _; simp) (.slice (some ⟨w.heap.size + 1 + 1 + 1 + 1, 0, none⟩) B B)).apart (p := ⟨w.heap.size + 1 + 1 + 1, 3, none⟩) (by show _ ≠ _; simp) (.slice none 0 0)
    have H6 := (((HB.out.setCell (p := ⟨w.heap.size + 1 + 1 + 1, 0, none⟩) (le3 _) (.int .i64 T)).setCell (p := ⟨w.heap.size + 1 + 1 + 1, 1, none⟩) (le3 _) (.int .i64 0)).setCell (p := ⟨w.heap.size + 1 + 1 + 1, 2, none⟩) (le3 _) (.slice (some ⟨w.heap.size + 1 + 1 + 1 + 1, 0, none⟩) B B)).setCell (p := ⟨w.heap.size + 1 + 1 + 1, 3, none⟩) (le3 _) (.slice none 0 0)
    have e6 := HS6.out
    have ez := HSZ.out
    have hD' : ∀ q : Nat, D ≠ (⟨w.heap.size + 1 + 1 + 1, q, none⟩ : Addr).block := fun q => by show D ≠ w.heap.size + 1 + 1 + 1; omega
    have hK1 : ((((W.setCell ⟨w.heap.size + 1 + 1 + 1, 0, none⟩ (.int .i64 T)).setCell ⟨w.heap.size + 1 + 1 + 1, 1, none⟩ (.int .i64 0)).setCell ⟨w.heap.size + 1 + 1 + 1, 2, none⟩ (.slice (some ⟨w.heap.size + 1 + 1 + 1 + 1, 0, none⟩) B B)).setCell ⟨w.heap.size + 1 + 1 + 1, 3, none⟩ (.slice none 0 0)).heap[D]? = some (.deferred (some [])) := by
      rw [Below.heap_setCell _ _ _ _ (hD' _), Below.heap_setCell _ _ _ _ (hD' _), Below.heap_setCell _ _ _ _ (hD' _), Below.heap_setCell _ _ _ _ (hD' _)]
      exact hK
    generalize (((W.setCell ⟨w.heap.size + 1 + 1 + 1, 0, none⟩ (.int .i64 T)).setCell ⟨w.heap.size + 1 + 1 + 1, 1, none⟩ (.int .i64 0)).setCell ⟨w.heap.size + 1 + 1 + 1, 2, none⟩ (.slice (some ⟨w.heap.size + 1 + 1 + 1 + 1, 0, none⟩) B B)).setCell ⟨w.heap.size + 1 + 1 + 1, 3, none⟩ (.slice none 0 0) = W1 at H4 H5 H6 hK1 ⊢
    refine ⟨by simp, .inl ⟨_, _, rfl, run_takeDeferred hK1, ?_⟩⟩
    have hD2 : ∀ {g : Nat} {t : TypeId} {ls : List Value}, Has W1 g t ls → g < W0.heap.size → Has (W1.putObj D (Obj.deferred none)) g t ls := fun {g t ls} hh hg => by
      unfold Has at *
      rw [World.putObj_heap_other (show g ≠ D by omega)]
      exact hh
    obtain ⟨q0, q1, q2, q3⟩ := (hD2 H4 (by omega)).four
    exact ⟨.agg #[.int .i64 T, .int .i64 0, .slice (some ⟨w.heap.size + 1 + 1 + 1 + 1, 0, none⟩) B B, .slice none 0 0], by simp [results, Try.results23, go_sem, q0, q1, q2, q3], _, rfl, by omega, hD2 H5 (by omega), H6.trans (belowK_b (w := w) (Nat.le_refl _) W1 D _ _ (by omega) hK1 rfl rfl)⟩
  case stop =>
    rintro D c pre W _ _ h _
    exact h.elim
end Go.Proofs.Ytbmjpfcnagodaaa
