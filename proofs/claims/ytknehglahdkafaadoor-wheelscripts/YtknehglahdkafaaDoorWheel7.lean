/- The contracts of the wheel's Row and Empty. -/
import Derived.Test.YtknehglahdkafaaDoorWheel6
import Derived.Test.YtknehglahdkafaaDoorOwn1
namespace Go.Proofs.YtknehglahdkafaaDoor
open Go.ChangeShapes Go.WideShapes Go.ChangeAt Go.RowKit
set_option linter.unusedVariables false

theorem Tryd.infoInt : (Tryd.prog.info? 3).map (fun i => (i.zero, i.size, i.bytes)) = some (some (.int .i64 0), 1, 8) := by kernel_rfl
theorem fieldPl2 (a b c : Int) (u : World) : (Instr.field 56 (.agg #[.int .i64 a, .int .i64 b, .int .i64 c]) 2).run Tryd.prog u = .ok (.int .i64 c) u := by kernel_rfl
def idsV (l : List Nat) : List Value := l.map fun (x : Nat) => .int .i64 (x : Int)
theorem idsV_len (l : List Nat) : (idsV l).length = l.length := by simp [idsV]
/-- The first one of a list, and the last one; -1 where there is none. -/
def hdI : List Nat → Int
  | [] => -1
  | x :: _ => x
def ltI (l : List Nat) : Int := hdI l.reverse
/-- New memory that is these ids. -/
def IdsTold (l : List Nat) (w : World) (e : Ending) (w' : World) : Prop := ∃ v, e = .returned v ∧ Own1 w.heap.size 3 w' v (idsV l) ∧ Below w.heap.size w w'
/-- A row of a wheel is just these ids. -/
structure Chain (s : WS) (i : Nat) (l : List Nat) : Prop where
  f : (s.en.getD i (0, 0)).1 = hdI l
  m : s.mask.testBit i = !l.isEmpty
  c : ∀ (j x : Nat), l[j]? = some x → ∃ a b, s.pl (x : Int) = some (a, b, hdI (l.drop (j + 1)))
  k : ∀ x ∈ l, x ≤ 1048575
theorem hdI_drop {l : List Nat} {j x : Nat} (h : l[j]? = some x) : hdI (l.drop j) = x := by
  have hl := (List.getElem?_eq_some_iff.1 h).1
  rw [List.drop_eq_getElem_cons hl]
  have : l[j] = x := (List.getElem?_eq_some_iff.1 h).2
  rw [this]; rfl
set_option maxRecDepth 100000 in
theorem Row_in (bP bM i : Nat) (l : List Nat) (s : WS) (w : World) (h : IsWh w bP bM s) (hi : i < 64) (hc : Chain s i l) (hl : l.length ≤ 900) :
    Calls Tryd.prog 19 #[.pointer (some ⟨bP, 0, none⟩), .int .i64 (i : Int)] w (IdsTold l w) := by
  have HH := Lib.hid (has_in bP bM i s w h hi)
  rw [hc.m] at HH
  cases l with
  | nil =>
    clear h hc
    go_enter Tryd.func19, Tryd.ntmps19
    go_wp2_with fail
    refine HH.out.mono ?_
    rintro e w1 ⟨rfl, hb⟩
    have HB := Lib.hid hb
    clear hb
    go_wp2
    go_ret
    exact ⟨_, rfl, Own1.nil _ _ _, HB.out⟩
  | cons y ys =>
    obtain ⟨l, hll⟩ : ∃ l, y :: ys = l := ⟨_, rfl⟩
    rw [hll] at hc hl
    have HLL := Lib.hid hll
    have HW := Lib.hid h
    have HC := Lib.hid hc
    have hbP := h.hd.lt
    have hbM := h.mp.lt
    have hp := en_at h.le hi
    have HP := Lib.hid hp
    clear h hc hp
    rw [hll]
    clear hll
    go_enter Tryd.func19, Tryd.ntmps19
    go_wp2_with fail
    refine HH.out.mono ?_
    rintro e w1 ⟨rfl, hb⟩
    have HW1 := Lib.hid (HW.out.below hb)
    have HB1 := Lib.hid hb
    have e0 := (HW.out.below hb).e0 HP.out
    rw [HC.out.f] at e0
    have q1 := (HW.out.below hb).hd.lt
    clear hb HH
    obtain ⟨x0, hx0⟩ : ∃ x0, hdI l = x0 := ⟨_, rfl⟩
    rw [hx0] at e0
    have HX0 := Lib.hid hx0
    clear hx0
    go_wp2_with fail
    go_loopw [5, 6] (fun v x wr => ∃ j : Nat, j ≤ l.length ∧ x = .int .i64 (hdI (l.drop j)) ∧ Own1 w.heap.size 3 wr v (idsV (l.take j)) ∧ IsWh wr bP bM s ∧ Below w.heap.size w wr) (fun v _ _ => l.length - (match v with | .slice _ n _ => n | _ => 0))
    case atStart => exact ⟨0, Nat.zero_le _, by rw [List.drop_zero, HX0.out], Own1.nil _ _ _, HW1.out, HB1.out⟩
    case round =>
      obtain ⟨j, hj, rfl, hO, hI, hB⟩ := hrel
      have HO := Lib.hid hO
      have HI := Lib.hid hI
      have HB := Lib.hid hB
      by_cases hlt : j < l.length
      · obtain ⟨x, hx⟩ : ∃ x, l[j]? = some x := ⟨_, List.getElem?_eq_getElem hlt⟩
        rw [hdI_drop hx]
        obtain ⟨pa, pb, hpl⟩ := HC.out.c j x hx
        have HPL := Lib.hid (show (s.pl (x : Int)).getD plE.zero = (pa, pb, hdI (l.drop (j + 1))) by rw [hpl]; rfl)
        have HX := Lib.hid hx
        have HXK := Lib.hid (show I64 (x : Int) by have := HC.out.k x (List.mem_of_getElem? hx); unfold I64; omega)
        have hlen : (idsV (l.take j)).length = j := by rw [idsV_len, List.length_take]; omega
        have HLEN := Lib.hid hlen
        have hvl := hO.sl
        rw [hlen] at hvl
        obtain ⟨A, cap, rfl⟩ := hvl
        have HSZ := Lib.hid hB.size
        obtain ⟨nx, hnx⟩ : ∃ nx, hdI (l.drop (j + 1)) = nx := ⟨_, rfl⟩
        rw [hnx] at HPL
        have HNX := Lib.hid hnx
        have t1 : ((x : Int) != -1) = true := by simp
        have hf2 := fieldPl2 pa pb nx
        clear hO hI hB hpl hx hlen hnx HW1 HB1
        go_wp2_with (at_builtin; refine wpList_append_own1 wr wr.heap.size rfl rfl _ _ 26 rfl 3 (.int .i64 0) 8 Tryd.underlying26 Tryd.infoInt rfl (by decide) _ (.int .i64 (x : Int)) (idsV (l.take j)) j HLEN.out rfl rfl rfl HO.out HSZ.out (by omega) ?_)
        intro g cap1 w2 ho hk hg hgl
        have hown : ∀ b, (Value.slice A j cap).ownBlock = some b → w.heap.size ≤ b := fun b hb => HO.out.ge hb
        have HI2 := Lib.hid (HI.out.kept hk (fun e => by have := hown _ e; omega) (fun e => by have := hown _ e; omega))
        have HB2 := Lib.hid (HB.out.trans (hk.below HB.out.size (fun b hb e => by have := hown _ e; omega)))
        have HO2 := Lib.hid (show Own1 w.heap.size 3 w2 (.slice (some ⟨g, 0, none⟩) (j + 1) cap1) (idsV (l.take (j + 1))) by
          have e : idsV (l.take (j + 1)) = idsV (l.take j) ++ [.int .i64 (x : Int)] := by
            rw [List.take_add_one, HX.out]; simp [idsV]
          rw [e]; exact ho)
        have pM := HI2.out.pM
        have qb := HI2.out.hd.lt
        clear ho hk hg hgl hown
        go_wp2_with (at_lookup; refine wpList_mlook plE w2 rfl _ _ 49 56 rfl Tryd.underlying49 (Tryd.zeroPl _) bM _ _ rfl HI2.out.mp x rfl HXK.out (pa, pb, nx) HPL.out (.agg #[.int .i64 pa, .int .i64 pb, .int .i64 nx]) rfl ?_)
        go_wp2
        go_roundw
        case rel => exact ⟨j + 1, by omega, by rw [HNX.out], HO2.out, HI2.out, HB2.out⟩
        case measure => simp; omega
      · have hjl : j = l.length := by omega
        have R := Lib.hid (show IdsTold l w (.returned u5) wr from ⟨u5, rfl, by rw [hjl, List.take_length] at hO; exact hO, hB⟩)
        have hz : hdI (l.drop j) = -1 := by rw [hjl, List.drop_length]; rfl
        rw [hz]
        clear hO hI hB hz
        go_wp2
        go_ret
        exact R.out
theorem Row_out (bP bM : Nat) (k : Int) (s : WS) (w : World) (h : IsWh w bP bM s) (hk : ¬ (0 ≤ k ∧ k < 64)) :
    Calls Tryd.prog 19 #[.pointer (some ⟨bP, 0, none⟩), .int .i64 k] w (IdsTold [] w) := by
  have HH := Lib.hid (has_out bP bM k s w h hk)
  clear h hk
  go_enter Tryd.func19, Tryd.ntmps19
  go_wp2_with fail
  refine HH.out.mono ?_
  rintro e w1 ⟨rfl, hb⟩
  have HB := Lib.hid hb
  clear hb
  go_wp2
  go_ret
  exact ⟨_, rfl, Own1.nil _ _ _, HB.out⟩
theorem Row_nil (k : Int) (w : World) : Calls Tryd.prog 19 #[.pointer none, .int .i64 k] w fun e w' => e = .returned (.slice none 0 0) ∧ Below w.heap.size w w' := by
  go_enter Tryd.func19, Tryd.ntmps19
  go_wp2_with fail
  refine (has_nil k w).mono ?_
  rintro e w1 ⟨rfl, hb⟩
  have HB := Lib.hid hb
  clear hb
  go_wp2
  go_ret
  exact ⟨rfl, HB.out⟩
end Go.Proofs.YtknehglahdkafaaDoor
