/- For every seed, all calls and two more the law RobinPuts returns true: what is put is got, and all else is as it was; what is deleted is not, and all else is as it was. -/
import Derived.Test.YtfhlffcmggjpdaaDoorRbOps
import Derived.Test.YtfhlffcmggjpdaaDoorRows
import Derived.ShutString
import Derived.Deep.RegionHeld3
namespace Go.Proofs.YtfhlffcmggjpdaaDoor.robinPuts
open Go.ChangeShapes Go.WideShapes Go.ChangeAt Go.RowKit
open Go.ChangeMaps (open_string shut_string)
set_option linter.unusedVariables false

theorem TT.pos {w : World} {bP bS seed bits c : Nat} {M : ByteArray → Option Int} (h : TT w bP bS seed bits M c) {k : ByteArray} (hs : (M k).isSome = true) : 1 ≤ c := by
  obtain ⟨s, a, b, d⟩ := h
  obtain ⟨v, hv⟩ := Option.isSome_iff_exists.1 hs
  obtain ⟨i, hi, hu, _⟩ := (b k v).2 hv
  rw [← d]
  unfold cnt
  exact List.length_pos_of_mem (List.mem_filter.2 ⟨List.mem_of_getElem? (atS_get (by rw [a.is.le]; exact hi)), hu⟩)
theorem Get_zr (bP bS seed bits : Nat) (M : ByteArray → Option Int) (c : Nat) (k : ByteArray) (z : Int) (r : Bool) (w : World) (h : TT w bP bS seed bits M c) (ht : TabW w) (hk : k.size ≤ maxLen) (ho : (M k).getD 0 = z ∧ (M k).isSome = r) :
    Calls Tryd.prog 25 #[.pointer (some ⟨bP, 0, none⟩), .string k] w fun e w' => e = .returned (.tuple #[.int .i64 z, .bool r]) ∧ Below w.heap.size w w' := by
  rw [← ho.1, ← ho.2]; exact Get_T bP bS seed bits M c k w h ht hk
theorem size100 {k : ByteArray} (h : ¬ 100 < k.size) : k.size ≤ maxLen := by unfold maxLen; omega
set_option maxRecDepth 100000 in
theorem open_two {H : Type} {enc : TypeId × Value → H} {w : World} {r : Reach} {b0 base : Nat} {held : Bool} {spare : Nat → Bool} {v : Value} {d : DataW H} {p : List MemPlace} (hv : Value.okWide Tryd.prog w r b0 56 v)
    (h : DataW.Trod enc Tryd.prog w base spare held 56 v d p) : ∃ x y : OpR, v = .agg #[.int .i64 x.d, .string x.k, .int .i64 x.v, .int .i64 y.d, .string y.k, .int .i64 y.v] ∧ x.k.size ≤ maxLen ∧ I64 x.v ∧ y.k.size ≤ maxLen := by
  simp only [Value.okWide, Tryd.underlying56] at hv
  obtain ⟨cs, rfl, hs, _⟩ := hv
  obtain ⟨fuel, hf⟩ := h
  obtain ⟨xs, m, _, _, hl, hx, hi⟩ := DataW.trod_array Tryd.underlying56 hf
  have h6 : cs.toList.length = 6 := by simpa using hs.trans (show Tryd.prog.cellsOf 56 = 6 by kernel_rfl)
  obtain ⟨v0, v1, v2, v3, v4, v5, hcs⟩ : ∃ v0 v1 v2 v3 v4 v5, cs.toList = [v0, v1, v2, v3, v4, v5] := by
    match cs.toList, h6 with
    | [v0, v1, v2, v3, v4, v5], _ => exact ⟨v0, v1, v2, v3, v4, v5, rfl⟩
  have hx2 : xs.length = 2 := by omega
  obtain ⟨x0, x1, rfl⟩ : ∃ x0 x1, xs = [x0, x1] := by
    match xs, hx2 with
    | [x0, x1], _ => exact ⟨x0, x1, rfl⟩
  have i0 := hi 0 (by decide)
  have i1 := hi 1 (by decide)
  have e1 : (Value.agg cs).cells.toList = [v0, v1, v2, v3, v4, v5] := by rw [← hcs]; simp [Value.cells]
  rw [cellsOp, e1] at i0 i1
  simp at i0 i1
  obtain ⟨o0, rfl, rfl, rfl, _, f1, f2⟩ := op_of i0
  obtain ⟨o1, rfl, rfl, rfl, _, g1, g2⟩ := op_of i1
  refine ⟨o0, o1, ?_, f1, f2, g1⟩
  have : cs = #[.int .i64 o0.d, .string o0.k, .int .i64 o0.v, .int .i64 o1.d, .string o1.k, .int .i64 o1.v] := by
    apply Array.ext'
    rw [hcs]
  rw [this]
/-- What is read of the two calls. -/
def Two (b : Nat) (xk : ByteArray) (xv : Int) (yk : ByteArray) (w : World) : Prop := w.cell? ⟨b, 1, none⟩ = some (.string xk) ∧ w.cell? ⟨b, 2, none⟩ = some (.int .i64 xv) ∧ w.cell? ⟨b, 4, none⟩ = some (.string yk)
set_option maxRecDepth 100000 in
set_option maxHeartbeats 0 in
theorem walk1 (seed : Nat) (A : Option Addr) (len cap : Nat) (L : Nat → OpR) (xd xv yd yv : Int) (xk yk : ByteArray) (hs : U seed) (W : World) (ho : OpsAt W A len cap L) (hx : xk.size ≤ maxLen) (hv : I64 xv) (hy : yk.size ≤ maxLen) (ht : TabW W) :
    Calls Tryd.prog 6 #[.int .u64 (seed : Int), .slice A len cap, .agg #[.int .i64 xd, .string xk, .int .i64 xv, .int .i64 yd, .string yk, .int .i64 yv]] W fun e w' => e = .returned (.bool true) ∧ Below W.heap.size W w' := by
  obtain ⟨W1, hW1⟩ : ∃ W1, W.alloc (.cells #[.int .i64 xd, .string xk, .int .i64 xv, .int .i64 yd, .string yk, .int .i64 yv] 56) = W1 := ⟨_, rfl⟩
  have hBW : Below W.heap.size W W1 := by rw [← hW1]; exact (Below.refl _ W).alloc (Nat.le_refl _) _
  have hSz : W1.heap.size = W.heap.size + 1 := by rw [← hW1]; simp
  have h2 : Two W.heap.size xk xv yk W1 := by rw [← hW1]; refine ⟨?_, ?_, ?_⟩ <;> simp
  have HX := Lib.hid (fun w' (h : Below W1.heap.size W1 w') => show Two W.heap.size xk xv yk w' from
    ⟨(h.cell (p := ⟨_, 1, none⟩) (by show W.heap.size < _; omega)).trans h2.1, (h.cell (p := ⟨_, 2, none⟩) (by show W.heap.size < _; omega)).trans h2.2.1, (h.cell (p := ⟨_, 4, none⟩) (by show W.heap.size < _; omega)).trans h2.2.2⟩)
  have HO := Lib.hid (fun w' (h : Below W1.heap.size W1 w') => (ho.below hBW).below h)
  have HT := Lib.hid (fun w' (h : Below W1.heap.size W1 w') => (ht.below hBW).below h)
  have HOUT := Lib.hid (fun w' (h : Below W1.heap.size W1 w') => hBW.trans (h.mono hBW.size))
  have HN := Lib.hid (New_T seed 5 W1 hs (by decide) (by decide))
  have HV := Lib.hid hv
  obtain ⟨q1, q2, q3⟩ := ho
  have HQ := Lib.hid q3
  have HSX := Lib.hid hx
  have HSY := Lib.hid hy
  unfold maxLen at q2
  clear h2 ht hs hBW hSz q3 hv hx hy
  go_enter Tryd.func6, Tryd.ntmps6
  go_wp2_with fail
  refine HN.out.mono ?_
  rintro e w1 ⟨bP, bS, rfl, hT, hB, h1, h2⟩
  clear hW1
  have HI := Lib.hid hT
  have HB := Lib.hid hB
  have HBK := Lib.hid (fun w' w'' (h : Below W1.heap.size W1 w') (k : Kept (fun b => b = bS) w' w'') => h.trans (k.below (B := W1.heap.size) h.size (fun i hi hf => by omega)))
  obtain ⟨x1, x2, y1⟩ := HX.out w1 hB
  have zx := HSX.out
  have zy := HSY.out
  unfold maxLen at zx zy
  clear hT hB h1 h2
  go_wp2_with fail
  refine (few_any A len cap L 60 w1 (HO.out w1 HB.out)).mono ?_
  rintro e w2 ⟨r, rfl, rfl, hr⟩
  cases r with
  | false =>
    clear hr
    go_wp2_with fail
    refine (live_any w1 (HT.out _ HB.out)).mono ?_
    rintro e w2 ⟨rfl, hb⟩
    have HB2 := Lib.hid (HB.out.trans (hb.mono HB.out.size))
    clear hb x1 x2 y1
    go_wp2
    go_ret
    exact ⟨rfl, HOUT.out _ HB2.out⟩
  | true =>
    obtain ⟨hl, hks⟩ := hr rfl
    have HKS := Lib.hid hks
    have hlen : len ≤ 60 := by omega
    clear hr hks hl
    by_cases hbx : 100 < xk.size
    · go_wp2_with fail
      refine (live_any w1 (HT.out _ HB.out)).mono ?_
      rintro e w2 ⟨rfl, hb⟩
      have HB2 := Lib.hid (HB.out.trans (hb.mono HB.out.size))
      clear hb x1 x2 y1
      go_wp2
      go_ret
      exact ⟨rfl, HOUT.out _ HB2.out⟩
    · by_cases hby : 100 < yk.size
      · go_wp2_with fail
        refine (live_any w1 (HT.out _ HB.out)).mono ?_
        rintro e w2 ⟨rfl, hb⟩
        have HB2 := Lib.hid (HB.out.trans (hb.mono HB.out.size))
        clear hb x1 x2 y1
        go_wp2
        go_ret
        exact ⟨rfl, HOUT.out _ HB2.out⟩
      · go_wp2_with fail
        clear x1 x2 y1
        go_loopw [9] (fun i wr => ∃ (j : Nat) (M : ByteArray → Option Int) (c : Nat), j ≤ len ∧ i = .int .i64 (j : Int) ∧ Hid (TT wr bP bS seed 5 M c) ∧ Hid (Below W1.heap.size W1 wr)) (fun i _ => len - (intOf i).toNat)
        case atStart => exact ⟨0, _, 0, Nat.zero_le _, rfl, HI, HB⟩
        case round =>
          obtain ⟨j, M, c, hj, rfl, HIw, HBw⟩ := hrel
          by_cases hlt : j < len
          · have ops := HO.out wr HBw.out
            obtain ⟨b, off, rfl, hb, hall⟩ := ops.2.2 (by omega)
            have hbl : b < wr.heap.size := hb
            have HOP := Lib.hid (hall j hlt)
            have c1 := (hall j hlt).c1
            have c2 := (hall j hlt).c2
            have HC := Lib.hid (Put_T bP bS seed 5 M c (L j).k (L j).v wr.drew (HIw.out.below (Below.refl _ _).drew) (HT.out _ HBw.out.drew) (HOP.out.w1) (HOP.out.w2))
            have CL := Lib.hid (fun w' (h : Below W1.heap.size W1 w') => show w'.cell? ⟨b, off + j * 3 + 1, none⟩ = some (.string (L j).k) ∧ w'.cell? ⟨b, off + j * 3 + 2, none⟩ = some (.int .i64 (L j).v) from by
              obtain ⟨b', off', e, _, hall'⟩ := (HO.out w' h).2.2 (by omega)
              cases e
              exact ⟨(hall' j hlt).c1, (hall' j hlt).c2⟩)
            clear ops hall hb HIw
            go_wp2_with fail
            go_region_held3 (fun w' => w'.cell? ⟨b, off + j * 3 + 1, none⟩ = some (.string (L j).k) ∧ w'.cell? ⟨b, off + j * 3 + 2, none⟩ = some (.int .i64 (L j).v)) (first | exact ⟨c1, c2⟩ | (with_reducible exact CL.out _ HB2.out) | go_keep) (first | (go_at_call 21; refine HC.out.mono ?_; rintro e w2 ⟨rfl, hT, hK⟩; have HI2 := Lib.hid hT; have HB2 := Lib.hid (HBK.out _ _ HBw.out.drew hK); clear hT hK HC))
            go_wp2
            go_roundw
            case rel => exact ⟨j + 1, _, _, by omega, by go_num, HI2, HB2⟩
            case measure => simp [intOf]; omega
          · clear HI HB HN HQ HKS
            have LX := Lib.hid (size100 hbx)
            have LY := Lib.hid (size100 hby)
            have hc32 : c ≤ 32 := HIw.out.le
            by_cases hb : 1 ≤ xk.size ∧ xk.size ≤ 33
            · have KB := Lib.hid hb
              clear hb
              cases hox : M xk with
              | none =>
                have NX := Lib.hid hox
                have FX := Lib.hid (show (M xk).getD 0 = 0 ∧ (M xk).isSome = false by rw [hox]; exact ⟨rfl, rfl⟩)
                clear hox
                by_cases hcf : c = 32
                · have CF := Lib.hid (show c = 2 ^ 5 from hcf)
                  clear hcf
                  by_cases hkk : xk = yk
                  · subst hkk
                    obtain ⟨x1, x2, y1⟩ := HX.out wr HBw.out
                    go_wp2_with fail
                    refine (Get_zr bP bS seed 5 (M) (c) xk 0 false wr HIw.out (HT.out _ HBw.out) LX.out FX.out).mono ?_
                    rintro e u2 ⟨rfl, hb⟩
                    have HI2 := Lib.hid (HIw.out.below hb)
                    have HB2 := Lib.hid (HBw.out.trans (hb.mono HBw.out.size))
                    clear hb x1 x2 y1 HIw
                    obtain ⟨x1, x2, y1⟩ := HX.out u2 HB2.out
                    go_wp2_with fail
                    refine (Len_at bP bS seed 5 (M) (c) ((c : Int)) u2 HI2.out (by push_cast; rfl)).mono ?_
                    rintro e u3 ⟨rfl, hb⟩
                    have HI3 := Lib.hid (HI2.out.below hb)
                    have HB3 := Lib.hid (HB2.out.trans (hb.mono HB2.out.size))
                    clear hb x1 x2 y1 HI2
                    obtain ⟨x1, x2, y1⟩ := HX.out u3 HB3.out
                    go_wp2_with fail
                    refine (Get_zr bP bS seed 5 (M) (c) xk 0 false u3 HI3.out (HT.out _ HB3.out) LX.out FX.out).mono ?_
                    rintro e u4 ⟨rfl, hb⟩
                    have HI4 := Lib.hid (HI3.out.below hb)
                    have HB4 := Lib.hid (HB3.out.trans (hb.mono HB3.out.size))
                    clear hb x1 x2 y1 HI3
                    obtain ⟨x1, x2, y1⟩ := HX.out u4 HB4.out
                    go_wp2_with fail
                    refine (Put_fullT bP bS seed 5 M c xk xv u4 HI4.out (HT.out _ HB4.out) KB.out HV.out NX.out CF.out).mono ?_
                    rintro e u5 ⟨rfl, hT, hK⟩
                    have HI5 := Lib.hid (show TT u5 bP bS seed 5 (M) (c) from hT)
                    have HB5 := Lib.hid (HBK.out _ _ HB4.out hK)
                    clear hT hK x1 x2 y1 HI4
                    obtain ⟨x1, x2, y1⟩ := HX.out u5 HB5.out
                    go_wp2_with fail
                    refine (Get_zr bP bS seed 5 (M) (c) xk 0 false u5 HI5.out (HT.out _ HB5.out) LX.out FX.out).mono ?_
                    rintro e u6 ⟨rfl, hb⟩
                    have HI6 := Lib.hid (HI5.out.below hb)
                    have HB6 := Lib.hid (HB5.out.trans (hb.mono HB5.out.size))
                    clear hb x1 x2 y1 HI5
                    obtain ⟨x1, x2, y1⟩ := HX.out u6 HB6.out
                    go_wp2_with fail
                    refine (Len_at bP bS seed 5 (M) (c) ((c : Int)) u6 HI6.out (by push_cast; rfl)).mono ?_
                    rintro e u7 ⟨rfl, hb⟩
                    have HI7 := Lib.hid (HI6.out.below hb)
                    have HB7 := Lib.hid (HB6.out.trans (hb.mono HB6.out.size))
                    clear hb x1 x2 y1 HI6
                    obtain ⟨x1, x2, y1⟩ := HX.out u7 HB7.out
                    go_wp2_with fail
                    refine (live_any u7 (HT.out _ HB7.out)).mono ?_
                    rintro e u8 ⟨rfl, hb⟩
                    have HI8 := Lib.hid (HI7.out.below hb)
                    have HB8 := Lib.hid (HB7.out.trans (hb.mono HB7.out.size))
                    clear hb x1 x2 y1 HI7
                    obtain ⟨x1, x2, y1⟩ := HX.out u8 HB8.out
                    go_wp2
                    go_ret
                    exact ⟨rfl, HOUT.out _ HB8.out⟩
                  · have NE := Lib.hid (fun (h : yk = xk) => hkk h.symm)
                    have t1 := str_ne hkk
                    have t2 := str_ne (fun h => hkk (Eq.symm h))
                    obtain ⟨z, r, hzr⟩ : ∃ z r, (M yk).getD 0 = z ∧ (M yk).isSome = r := ⟨_, _, rfl, rfl⟩
                    have FY := Lib.hid hzr
                    clear hkk hzr
                    obtain ⟨x1, x2, y1⟩ := HX.out wr HBw.out
                    go_wp2_with fail
                    refine (Get_zr bP bS seed 5 (M) (c) yk z r wr HIw.out (HT.out _ HBw.out) LY.out FY.out).mono ?_
                    rintro e u2 ⟨rfl, hb⟩
                    have HI2 := Lib.hid (HIw.out.below hb)
                    have HB2 := Lib.hid (HBw.out.trans (hb.mono HBw.out.size))
                    clear hb x1 x2 y1 HIw
                    obtain ⟨x1, x2, y1⟩ := HX.out u2 HB2.out
                    go_wp2_with fail
                    refine (Len_at bP bS seed 5 (M) (c) ((c : Int)) u2 HI2.out (by push_cast; rfl)).mono ?_
                    rintro e u3 ⟨rfl, hb⟩
                    have HI3 := Lib.hid (HI2.out.below hb)
                    have HB3 := Lib.hid (HB2.out.trans (hb.mono HB2.out.size))
                    clear hb x1 x2 y1 HI2
                    obtain ⟨x1, x2, y1⟩ := HX.out u3 HB3.out
                    go_wp2_with fail
                    refine (Get_zr bP bS seed 5 (M) (c) xk 0 false u3 HI3.out (HT.out _ HB3.out) LX.out FX.out).mono ?_
                    rintro e u4 ⟨rfl, hb⟩
                    have HI4 := Lib.hid (HI3.out.below hb)
                    have HB4 := Lib.hid (HB3.out.trans (hb.mono HB3.out.size))
                    clear hb x1 x2 y1 HI3
                    obtain ⟨x1, x2, y1⟩ := HX.out u4 HB4.out
                    go_wp2_with fail
                    refine (Put_fullT bP bS seed 5 M c xk xv u4 HI4.out (HT.out _ HB4.out) KB.out HV.out NX.out CF.out).mono ?_
                    rintro e u5 ⟨rfl, hT, hK⟩
                    have HI5 := Lib.hid (show TT u5 bP bS seed 5 (M) (c) from hT)
                    have HB5 := Lib.hid (HBK.out _ _ HB4.out hK)
                    clear hT hK x1 x2 y1 HI4
                    obtain ⟨x1, x2, y1⟩ := HX.out u5 HB5.out
                    go_wp2_with fail
                    refine (Get_zr bP bS seed 5 (M) (c) yk z r u5 HI5.out (HT.out _ HB5.out) LY.out FY.out).mono ?_
                    rintro e u6 ⟨rfl, hb⟩
                    have HI6 := Lib.hid (HI5.out.below hb)
                    have HB6 := Lib.hid (HB5.out.trans (hb.mono HB5.out.size))
                    clear hb x1 x2 y1 HI5
                    obtain ⟨x1, x2, y1⟩ := HX.out u6 HB6.out
                    go_wp2_with fail
                    refine (Len_at bP bS seed 5 (M) (c) ((c : Int)) u6 HI6.out (by push_cast; rfl)).mono ?_
                    rintro e u7 ⟨rfl, hb⟩
                    have HI7 := Lib.hid (HI6.out.below hb)
                    have HB7 := Lib.hid (HB6.out.trans (hb.mono HB6.out.size))
                    clear hb x1 x2 y1 HI6
                    obtain ⟨x1, x2, y1⟩ := HX.out u7 HB7.out
                    go_wp2_with fail
                    refine (live_any u7 (HT.out _ HB7.out)).mono ?_
                    rintro e u8 ⟨rfl, hb⟩
                    have HI8 := Lib.hid (HI7.out.below hb)
                    have HB8 := Lib.hid (HB7.out.trans (hb.mono HB7.out.size))
                    clear hb x1 x2 y1 HI7
                    obtain ⟨x1, x2, y1⟩ := HX.out u8 HB8.out
                    go_wp2
                    go_ret
                    exact ⟨rfl, HOUT.out _ HB8.out⟩
                · have CF := Lib.hid (show c ≠ 2 ^ 5 from hcf)
                  have hc31 : c < 32 := by omega
                  clear hcf
                  by_cases hkk : xk = yk
                  · subst hkk
                    obtain ⟨x1, x2, y1⟩ := HX.out wr HBw.out
                    go_wp2_with fail
                    refine (Get_zr bP bS seed 5 (M) (c) xk 0 false wr HIw.out (HT.out _ HBw.out) LX.out FX.out).mono ?_
                    rintro e u2 ⟨rfl, hb⟩
                    have HI2 := Lib.hid (HIw.out.below hb)
                    have HB2 := Lib.hid (HBw.out.trans (hb.mono HBw.out.size))
                    clear hb x1 x2 y1 HIw
                    obtain ⟨x1, x2, y1⟩ := HX.out u2 HB2.out
                    go_wp2_with fail
                    refine (Len_at bP bS seed 5 (M) (c) ((c : Int)) u2 HI2.out (by push_cast; rfl)).mono ?_
                    rintro e u3 ⟨rfl, hb⟩
                    have HI3 := Lib.hid (HI2.out.below hb)
                    have HB3 := Lib.hid (HB2.out.trans (hb.mono HB2.out.size))
                    clear hb x1 x2 y1 HI2
                    obtain ⟨x1, x2, y1⟩ := HX.out u3 HB3.out
                    go_wp2_with fail
                    refine (Get_zr bP bS seed 5 (M) (c) xk 0 false u3 HI3.out (HT.out _ HB3.out) LX.out FX.out).mono ?_
                    rintro e u4 ⟨rfl, hb⟩
                    have HI4 := Lib.hid (HI3.out.below hb)
                    have HB4 := Lib.hid (HB3.out.trans (hb.mono HB3.out.size))
                    clear hb x1 x2 y1 HI3
                    obtain ⟨x1, x2, y1⟩ := HX.out u4 HB4.out
                    go_wp2_with fail
                    refine (Put_newT bP bS seed 5 M c xk xv u4 HI4.out (HT.out _ HB4.out) KB.out HV.out NX.out CF.out).mono ?_
                    rintro e u5 ⟨rfl, hT, hK⟩
                    have HI5 := Lib.hid (show TT u5 bP bS seed 5 (upd M xk (some xv)) (c + 1) from hT)
                    have HB5 := Lib.hid (HBK.out _ _ HB4.out hK)
                    clear hT hK x1 x2 y1 HI4
                    obtain ⟨x1, x2, y1⟩ := HX.out u5 HB5.out
                    go_wp2_with fail
                    refine (Get_zr bP bS seed 5 (upd M xk (some xv)) (c + 1) xk xv true u5 HI5.out (HT.out _ HB5.out) LX.out ⟨by rw [upd_same]; rfl, by rw [upd_same]; rfl⟩).mono ?_
                    rintro e u6 ⟨rfl, hb⟩
                    have HI6 := Lib.hid (HI5.out.below hb)
                    have HB6 := Lib.hid (HB5.out.trans (hb.mono HB5.out.size))
                    clear hb x1 x2 y1 HI5
                    obtain ⟨x1, x2, y1⟩ := HX.out u6 HB6.out
                    go_wp2_with fail
                    refine (Get_zr bP bS seed 5 (upd M xk (some xv)) (c + 1) xk xv true u6 HI6.out (HT.out _ HB6.out) LX.out ⟨by rw [upd_same]; rfl, by rw [upd_same]; rfl⟩).mono ?_
                    rintro e u7 ⟨rfl, hb⟩
                    have HI7 := Lib.hid (HI6.out.below hb)
                    have HB7 := Lib.hid (HB6.out.trans (hb.mono HB6.out.size))
                    clear hb x1 x2 y1 HI6
                    obtain ⟨x1, x2, y1⟩ := HX.out u7 HB7.out
                    go_wp2_with fail
                    refine (Len_at bP bS seed 5 (upd M xk (some xv)) (c + 1) ((c : Int) + 1) u7 HI7.out (by push_cast; rfl)).mono ?_
                    rintro e u8 ⟨rfl, hb⟩
                    have HI8 := Lib.hid (HI7.out.below hb)
                    have HB8 := Lib.hid (HB7.out.trans (hb.mono HB7.out.size))
                    clear hb x1 x2 y1 HI7
                    obtain ⟨x1, x2, y1⟩ := HX.out u8 HB8.out
                    go_wp2_with fail
                    refine (Delete_at bP bS seed 5 (upd M xk (some xv)) (c + 1) xk true u8 HI8.out (HT.out _ HB8.out) LX.out (by rw [upd_same]; rfl)).mono ?_
                    rintro e u9 ⟨rfl, hT, hK⟩
                    have HI9 := Lib.hid (show TT u9 bP bS seed 5 (upd (upd M xk (some xv)) xk none) (c) from hT)
                    have HB9 := Lib.hid (HBK.out _ _ HB8.out hK)
                    clear hT hK x1 x2 y1 HI8
                    obtain ⟨x1, x2, y1⟩ := HX.out u9 HB9.out
                    go_wp2_with fail
                    refine (Get_zr bP bS seed 5 (upd (upd M xk (some xv)) xk none) (c) xk 0 false u9 HI9.out (HT.out _ HB9.out) LX.out ⟨by rw [upd_same]; rfl, by rw [upd_same]; rfl⟩).mono ?_
                    rintro e u10 ⟨rfl, hb⟩
                    have HI10 := Lib.hid (HI9.out.below hb)
                    have HB10 := Lib.hid (HB9.out.trans (hb.mono HB9.out.size))
                    clear hb x1 x2 y1 HI9
                    obtain ⟨x1, x2, y1⟩ := HX.out u10 HB10.out
                    go_wp2_with fail
                    refine (Get_zr bP bS seed 5 (upd (upd M xk (some xv)) xk none) (c) xk 0 false u10 HI10.out (HT.out _ HB10.out) LX.out ⟨by rw [upd_same]; rfl, by rw [upd_same]; rfl⟩).mono ?_
                    rintro e u11 ⟨rfl, hb⟩
                    have HI11 := Lib.hid (HI10.out.below hb)
                    have HB11 := Lib.hid (HB10.out.trans (hb.mono HB10.out.size))
                    clear hb x1 x2 y1 HI10
                    obtain ⟨x1, x2, y1⟩ := HX.out u11 HB11.out
                    go_wp2_with fail
                    refine (Len_at bP bS seed 5 (upd (upd M xk (some xv)) xk none) (c) ((c : Int)) u11 HI11.out (by push_cast; rfl)).mono ?_
                    rintro e u12 ⟨rfl, hb⟩
                    have HI12 := Lib.hid (HI11.out.below hb)
                    have HB12 := Lib.hid (HB11.out.trans (hb.mono HB11.out.size))
                    clear hb x1 x2 y1 HI11
                    obtain ⟨x1, x2, y1⟩ := HX.out u12 HB12.out
                    go_wp2_with fail
                    refine (live_any u12 (HT.out _ HB12.out)).mono ?_
                    rintro e u13 ⟨rfl, hb⟩
                    have HI13 := Lib.hid (HI12.out.below hb)
                    have HB13 := Lib.hid (HB12.out.trans (hb.mono HB12.out.size))
                    clear hb x1 x2 y1 HI12
                    obtain ⟨x1, x2, y1⟩ := HX.out u13 HB13.out
                    go_wp2
                    go_ret
                    exact ⟨rfl, HOUT.out _ HB13.out⟩
                  · have NE := Lib.hid (fun (h : yk = xk) => hkk h.symm)
                    have t1 := str_ne hkk
                    have t2 := str_ne (fun h => hkk (Eq.symm h))
                    obtain ⟨z, r, hzr⟩ : ∃ z r, (M yk).getD 0 = z ∧ (M yk).isSome = r := ⟨_, _, rfl, rfl⟩
                    have FY := Lib.hid hzr
                    clear hkk hzr
                    obtain ⟨x1, x2, y1⟩ := HX.out wr HBw.out
                    go_wp2_with fail
                    refine (Get_zr bP bS seed 5 (M) (c) yk z r wr HIw.out (HT.out _ HBw.out) LY.out FY.out).mono ?_
                    rintro e u2 ⟨rfl, hb⟩
                    have HI2 := Lib.hid (HIw.out.below hb)
                    have HB2 := Lib.hid (HBw.out.trans (hb.mono HBw.out.size))
                    clear hb x1 x2 y1 HIw
                    obtain ⟨x1, x2, y1⟩ := HX.out u2 HB2.out
                    go_wp2_with fail
                    refine (Len_at bP bS seed 5 (M) (c) ((c : Int)) u2 HI2.out (by push_cast; rfl)).mono ?_
                    rintro e u3 ⟨rfl, hb⟩
                    have HI3 := Lib.hid (HI2.out.below hb)
                    have HB3 := Lib.hid (HB2.out.trans (hb.mono HB2.out.size))
                    clear hb x1 x2 y1 HI2
                    obtain ⟨x1, x2, y1⟩ := HX.out u3 HB3.out
                    go_wp2_with fail
                    refine (Get_zr bP bS seed 5 (M) (c) xk 0 false u3 HI3.out (HT.out _ HB3.out) LX.out FX.out).mono ?_
                    rintro e u4 ⟨rfl, hb⟩
                    have HI4 := Lib.hid (HI3.out.below hb)
                    have HB4 := Lib.hid (HB3.out.trans (hb.mono HB3.out.size))
                    clear hb x1 x2 y1 HI3
                    obtain ⟨x1, x2, y1⟩ := HX.out u4 HB4.out
                    go_wp2_with fail
                    refine (Put_newT bP bS seed 5 M c xk xv u4 HI4.out (HT.out _ HB4.out) KB.out HV.out NX.out CF.out).mono ?_
                    rintro e u5 ⟨rfl, hT, hK⟩
                    have HI5 := Lib.hid (show TT u5 bP bS seed 5 (upd M xk (some xv)) (c + 1) from hT)
                    have HB5 := Lib.hid (HBK.out _ _ HB4.out hK)
                    clear hT hK x1 x2 y1 HI4
                    obtain ⟨x1, x2, y1⟩ := HX.out u5 HB5.out
                    go_wp2_with fail
                    refine (Get_zr bP bS seed 5 (upd M xk (some xv)) (c + 1) yk z r u5 HI5.out (HT.out _ HB5.out) LY.out ⟨by rw [upd_other _ _ NE.out]; exact FY.out.1, by rw [upd_other _ _ NE.out]; exact FY.out.2⟩).mono ?_
                    rintro e u6 ⟨rfl, hb⟩
                    have HI6 := Lib.hid (HI5.out.below hb)
                    have HB6 := Lib.hid (HB5.out.trans (hb.mono HB5.out.size))
                    clear hb x1 x2 y1 HI5
                    obtain ⟨x1, x2, y1⟩ := HX.out u6 HB6.out
                    go_wp2_with fail
                    refine (Get_zr bP bS seed 5 (upd M xk (some xv)) (c + 1) xk xv true u6 HI6.out (HT.out _ HB6.out) LX.out ⟨by rw [upd_same]; rfl, by rw [upd_same]; rfl⟩).mono ?_
                    rintro e u7 ⟨rfl, hb⟩
                    have HI7 := Lib.hid (HI6.out.below hb)
                    have HB7 := Lib.hid (HB6.out.trans (hb.mono HB6.out.size))
                    clear hb x1 x2 y1 HI6
                    obtain ⟨x1, x2, y1⟩ := HX.out u7 HB7.out
                    go_wp2_with fail
                    refine (Len_at bP bS seed 5 (upd M xk (some xv)) (c + 1) ((c : Int) + 1) u7 HI7.out (by push_cast; rfl)).mono ?_
                    rintro e u8 ⟨rfl, hb⟩
                    have HI8 := Lib.hid (HI7.out.below hb)
                    have HB8 := Lib.hid (HB7.out.trans (hb.mono HB7.out.size))
                    clear hb x1 x2 y1 HI7
                    obtain ⟨x1, x2, y1⟩ := HX.out u8 HB8.out
                    go_wp2_with fail
                    refine (Delete_at bP bS seed 5 (upd M xk (some xv)) (c + 1) xk true u8 HI8.out (HT.out _ HB8.out) LX.out (by rw [upd_same]; rfl)).mono ?_
                    rintro e u9 ⟨rfl, hT, hK⟩
                    have HI9 := Lib.hid (show TT u9 bP bS seed 5 (upd (upd M xk (some xv)) xk none) (c) from hT)
                    have HB9 := Lib.hid (HBK.out _ _ HB8.out hK)
                    clear hT hK x1 x2 y1 HI8
                    obtain ⟨x1, x2, y1⟩ := HX.out u9 HB9.out
                    go_wp2_with fail
                    refine (Get_zr bP bS seed 5 (upd (upd M xk (some xv)) xk none) (c) xk 0 false u9 HI9.out (HT.out _ HB9.out) LX.out ⟨by rw [upd_same]; rfl, by rw [upd_same]; rfl⟩).mono ?_
                    rintro e u10 ⟨rfl, hb⟩
                    have HI10 := Lib.hid (HI9.out.below hb)
                    have HB10 := Lib.hid (HB9.out.trans (hb.mono HB9.out.size))
                    clear hb x1 x2 y1 HI9
                    obtain ⟨x1, x2, y1⟩ := HX.out u10 HB10.out
                    go_wp2_with fail
                    refine (Get_zr bP bS seed 5 (upd (upd M xk (some xv)) xk none) (c) yk z r u10 HI10.out (HT.out _ HB10.out) LY.out ⟨by rw [upd_other _ _ NE.out, upd_other _ _ NE.out]; exact FY.out.1, by rw [upd_other _ _ NE.out, upd_other _ _ NE.out]; exact FY.out.2⟩).mono ?_
                    rintro e u11 ⟨rfl, hb⟩
                    have HI11 := Lib.hid (HI10.out.below hb)
                    have HB11 := Lib.hid (HB10.out.trans (hb.mono HB10.out.size))
                    clear hb x1 x2 y1 HI10
                    obtain ⟨x1, x2, y1⟩ := HX.out u11 HB11.out
                    go_wp2_with fail
                    refine (Len_at bP bS seed 5 (upd (upd M xk (some xv)) xk none) (c) ((c : Int)) u11 HI11.out (by push_cast; rfl)).mono ?_
                    rintro e u12 ⟨rfl, hb⟩
                    have HI12 := Lib.hid (HI11.out.below hb)
                    have HB12 := Lib.hid (HB11.out.trans (hb.mono HB11.out.size))
                    clear hb x1 x2 y1 HI11
                    obtain ⟨x1, x2, y1⟩ := HX.out u12 HB12.out
                    go_wp2_with fail
                    refine (live_any u12 (HT.out _ HB12.out)).mono ?_
                    rintro e u13 ⟨rfl, hb⟩
                    have HI13 := Lib.hid (HI12.out.below hb)
                    have HB13 := Lib.hid (HB12.out.trans (hb.mono HB12.out.size))
                    clear hb x1 x2 y1 HI12
                    obtain ⟨x1, x2, y1⟩ := HX.out u13 HB13.out
                    go_wp2
                    go_ret
                    exact ⟨rfl, HOUT.out _ HB13.out⟩
              | some xz =>
                have SX := Lib.hid (show (M xk).isSome = true by rw [hox]; rfl)
                have FX := Lib.hid (show (M xk).getD 0 = xz ∧ (M xk).isSome = true by rw [hox]; exact ⟨rfl, rfl⟩)
                have hpos := TT.pos HIw.out SX.out
                obtain ⟨d, rfl⟩ : ∃ d, c = d + 1 := ⟨c - 1, by omega⟩
                clear hox hpos
                by_cases hkk : xk = yk
                · subst hkk
                  obtain ⟨x1, x2, y1⟩ := HX.out wr HBw.out
                  go_wp2_with fail
                  refine (Get_zr bP bS seed 5 (M) (d + 1) xk xz true wr HIw.out (HT.out _ HBw.out) LX.out FX.out).mono ?_
                  rintro e u2 ⟨rfl, hb⟩
                  have HI2 := Lib.hid (HIw.out.below hb)
                  have HB2 := Lib.hid (HBw.out.trans (hb.mono HBw.out.size))
                  clear hb x1 x2 y1 HIw
                  obtain ⟨x1, x2, y1⟩ := HX.out u2 HB2.out
                  go_wp2_with fail
                  refine (Len_at bP bS seed 5 (M) (d + 1) ((d : Int) + 1) u2 HI2.out (by push_cast; rfl)).mono ?_
                  rintro e u3 ⟨rfl, hb⟩
                  have HI3 := Lib.hid (HI2.out.below hb)
                  have HB3 := Lib.hid (HB2.out.trans (hb.mono HB2.out.size))
                  clear hb x1 x2 y1 HI2
                  obtain ⟨x1, x2, y1⟩ := HX.out u3 HB3.out
                  go_wp2_with fail
                  refine (Get_zr bP bS seed 5 (M) (d + 1) xk xz true u3 HI3.out (HT.out _ HB3.out) LX.out FX.out).mono ?_
                  rintro e u4 ⟨rfl, hb⟩
                  have HI4 := Lib.hid (HI3.out.below hb)
                  have HB4 := Lib.hid (HB3.out.trans (hb.mono HB3.out.size))
                  clear hb x1 x2 y1 HI3
                  obtain ⟨x1, x2, y1⟩ := HX.out u4 HB4.out
                  go_wp2_with fail
                  refine (Put_setT bP bS seed 5 M (d + 1) xk xv u4 HI4.out (HT.out _ HB4.out) KB.out HV.out SX.out).mono ?_
                  rintro e u5 ⟨rfl, hT, hK⟩
                  have HI5 := Lib.hid (show TT u5 bP bS seed 5 (upd M xk (some xv)) (d + 1) from hT)
                  have HB5 := Lib.hid (HBK.out _ _ HB4.out hK)
                  clear hT hK x1 x2 y1 HI4
                  obtain ⟨x1, x2, y1⟩ := HX.out u5 HB5.out
                  go_wp2_with fail
                  refine (Get_zr bP bS seed 5 (upd M xk (some xv)) (d + 1) xk xv true u5 HI5.out (HT.out _ HB5.out) LX.out ⟨by rw [upd_same]; rfl, by rw [upd_same]; rfl⟩).mono ?_
                  rintro e u6 ⟨rfl, hb⟩
                  have HI6 := Lib.hid (HI5.out.below hb)
                  have HB6 := Lib.hid (HB5.out.trans (hb.mono HB5.out.size))
                  clear hb x1 x2 y1 HI5
                  obtain ⟨x1, x2, y1⟩ := HX.out u6 HB6.out
                  go_wp2_with fail
                  refine (Get_zr bP bS seed 5 (upd M xk (some xv)) (d + 1) xk xv true u6 HI6.out (HT.out _ HB6.out) LX.out ⟨by rw [upd_same]; rfl, by rw [upd_same]; rfl⟩).mono ?_
                  rintro e u7 ⟨rfl, hb⟩
                  have HI7 := Lib.hid (HI6.out.below hb)
                  have HB7 := Lib.hid (HB6.out.trans (hb.mono HB6.out.size))
                  clear hb x1 x2 y1 HI6
                  obtain ⟨x1, x2, y1⟩ := HX.out u7 HB7.out
                  go_wp2_with fail
                  refine (Len_at bP bS seed 5 (upd M xk (some xv)) (d + 1) ((d : Int) + 1) u7 HI7.out (by push_cast; rfl)).mono ?_
                  rintro e u8 ⟨rfl, hb⟩
                  have HI8 := Lib.hid (HI7.out.below hb)
                  have HB8 := Lib.hid (HB7.out.trans (hb.mono HB7.out.size))
                  clear hb x1 x2 y1 HI7
                  obtain ⟨x1, x2, y1⟩ := HX.out u8 HB8.out
                  go_wp2_with fail
                  refine (Delete_at bP bS seed 5 (upd M xk (some xv)) (d + 1) xk true u8 HI8.out (HT.out _ HB8.out) LX.out (by rw [upd_same]; rfl)).mono ?_
                  rintro e u9 ⟨rfl, hT, hK⟩
                  have HI9 := Lib.hid (show TT u9 bP bS seed 5 (upd (upd M xk (some xv)) xk none) (d) from hT)
                  have HB9 := Lib.hid (HBK.out _ _ HB8.out hK)
                  clear hT hK x1 x2 y1 HI8
                  obtain ⟨x1, x2, y1⟩ := HX.out u9 HB9.out
                  go_wp2_with fail
                  refine (Get_zr bP bS seed 5 (upd (upd M xk (some xv)) xk none) (d) xk 0 false u9 HI9.out (HT.out _ HB9.out) LX.out ⟨by rw [upd_same]; rfl, by rw [upd_same]; rfl⟩).mono ?_
                  rintro e u10 ⟨rfl, hb⟩
                  have HI10 := Lib.hid (HI9.out.below hb)
                  have HB10 := Lib.hid (HB9.out.trans (hb.mono HB9.out.size))
                  clear hb x1 x2 y1 HI9
                  obtain ⟨x1, x2, y1⟩ := HX.out u10 HB10.out
                  go_wp2_with fail
                  refine (Get_zr bP bS seed 5 (upd (upd M xk (some xv)) xk none) (d) xk 0 false u10 HI10.out (HT.out _ HB10.out) LX.out ⟨by rw [upd_same]; rfl, by rw [upd_same]; rfl⟩).mono ?_
                  rintro e u11 ⟨rfl, hb⟩
                  have HI11 := Lib.hid (HI10.out.below hb)
                  have HB11 := Lib.hid (HB10.out.trans (hb.mono HB10.out.size))
                  clear hb x1 x2 y1 HI10
                  obtain ⟨x1, x2, y1⟩ := HX.out u11 HB11.out
                  go_wp2_with fail
                  refine (Len_at bP bS seed 5 (upd (upd M xk (some xv)) xk none) (d) ((d : Int)) u11 HI11.out (by push_cast; rfl)).mono ?_
                  rintro e u12 ⟨rfl, hb⟩
                  have HI12 := Lib.hid (HI11.out.below hb)
                  have HB12 := Lib.hid (HB11.out.trans (hb.mono HB11.out.size))
                  clear hb x1 x2 y1 HI11
                  obtain ⟨x1, x2, y1⟩ := HX.out u12 HB12.out
                  go_wp2_with fail
                  refine (live_any u12 (HT.out _ HB12.out)).mono ?_
                  rintro e u13 ⟨rfl, hb⟩
                  have HI13 := Lib.hid (HI12.out.below hb)
                  have HB13 := Lib.hid (HB12.out.trans (hb.mono HB12.out.size))
                  clear hb x1 x2 y1 HI12
                  obtain ⟨x1, x2, y1⟩ := HX.out u13 HB13.out
                  go_wp2
                  go_ret
                  exact ⟨rfl, HOUT.out _ HB13.out⟩
                · have NE := Lib.hid (fun (h : yk = xk) => hkk h.symm)
                  have t1 := str_ne hkk
                  have t2 := str_ne (fun h => hkk (Eq.symm h))
                  obtain ⟨z, r, hzr⟩ : ∃ z r, (M yk).getD 0 = z ∧ (M yk).isSome = r := ⟨_, _, rfl, rfl⟩
                  have FY := Lib.hid hzr
                  clear hkk hzr
                  obtain ⟨x1, x2, y1⟩ := HX.out wr HBw.out
                  go_wp2_with fail
                  refine (Get_zr bP bS seed 5 (M) (d + 1) yk z r wr HIw.out (HT.out _ HBw.out) LY.out FY.out).mono ?_
                  rintro e u2 ⟨rfl, hb⟩
                  have HI2 := Lib.hid (HIw.out.below hb)
                  have HB2 := Lib.hid (HBw.out.trans (hb.mono HBw.out.size))
                  clear hb x1 x2 y1 HIw
                  obtain ⟨x1, x2, y1⟩ := HX.out u2 HB2.out
                  go_wp2_with fail
                  refine (Len_at bP bS seed 5 (M) (d + 1) ((d : Int) + 1) u2 HI2.out (by push_cast; rfl)).mono ?_
                  rintro e u3 ⟨rfl, hb⟩
                  have HI3 := Lib.hid (HI2.out.below hb)
                  have HB3 := Lib.hid (HB2.out.trans (hb.mono HB2.out.size))
                  clear hb x1 x2 y1 HI2
                  obtain ⟨x1, x2, y1⟩ := HX.out u3 HB3.out
                  go_wp2_with fail
                  refine (Get_zr bP bS seed 5 (M) (d + 1) xk xz true u3 HI3.out (HT.out _ HB3.out) LX.out FX.out).mono ?_
                  rintro e u4 ⟨rfl, hb⟩
                  have HI4 := Lib.hid (HI3.out.below hb)
                  have HB4 := Lib.hid (HB3.out.trans (hb.mono HB3.out.size))
                  clear hb x1 x2 y1 HI3
                  obtain ⟨x1, x2, y1⟩ := HX.out u4 HB4.out
                  go_wp2_with fail
                  refine (Put_setT bP bS seed 5 M (d + 1) xk xv u4 HI4.out (HT.out _ HB4.out) KB.out HV.out SX.out).mono ?_
                  rintro e u5 ⟨rfl, hT, hK⟩
                  have HI5 := Lib.hid (show TT u5 bP bS seed 5 (upd M xk (some xv)) (d + 1) from hT)
                  have HB5 := Lib.hid (HBK.out _ _ HB4.out hK)
                  clear hT hK x1 x2 y1 HI4
                  obtain ⟨x1, x2, y1⟩ := HX.out u5 HB5.out
                  go_wp2_with fail
                  refine (Get_zr bP bS seed 5 (upd M xk (some xv)) (d + 1) yk z r u5 HI5.out (HT.out _ HB5.out) LY.out ⟨by rw [upd_other _ _ NE.out]; exact FY.out.1, by rw [upd_other _ _ NE.out]; exact FY.out.2⟩).mono ?_
                  rintro e u6 ⟨rfl, hb⟩
                  have HI6 := Lib.hid (HI5.out.below hb)
                  have HB6 := Lib.hid (HB5.out.trans (hb.mono HB5.out.size))
                  clear hb x1 x2 y1 HI5
                  obtain ⟨x1, x2, y1⟩ := HX.out u6 HB6.out
                  go_wp2_with fail
                  refine (Get_zr bP bS seed 5 (upd M xk (some xv)) (d + 1) xk xv true u6 HI6.out (HT.out _ HB6.out) LX.out ⟨by rw [upd_same]; rfl, by rw [upd_same]; rfl⟩).mono ?_
                  rintro e u7 ⟨rfl, hb⟩
                  have HI7 := Lib.hid (HI6.out.below hb)
                  have HB7 := Lib.hid (HB6.out.trans (hb.mono HB6.out.size))
                  clear hb x1 x2 y1 HI6
                  obtain ⟨x1, x2, y1⟩ := HX.out u7 HB7.out
                  go_wp2_with fail
                  refine (Len_at bP bS seed 5 (upd M xk (some xv)) (d + 1) ((d : Int) + 1) u7 HI7.out (by push_cast; rfl)).mono ?_
                  rintro e u8 ⟨rfl, hb⟩
                  have HI8 := Lib.hid (HI7.out.below hb)
                  have HB8 := Lib.hid (HB7.out.trans (hb.mono HB7.out.size))
                  clear hb x1 x2 y1 HI7
                  obtain ⟨x1, x2, y1⟩ := HX.out u8 HB8.out
                  go_wp2_with fail
                  refine (Delete_at bP bS seed 5 (upd M xk (some xv)) (d + 1) xk true u8 HI8.out (HT.out _ HB8.out) LX.out (by rw [upd_same]; rfl)).mono ?_
                  rintro e u9 ⟨rfl, hT, hK⟩
                  have HI9 := Lib.hid (show TT u9 bP bS seed 5 (upd (upd M xk (some xv)) xk none) (d) from hT)
                  have HB9 := Lib.hid (HBK.out _ _ HB8.out hK)
                  clear hT hK x1 x2 y1 HI8
                  obtain ⟨x1, x2, y1⟩ := HX.out u9 HB9.out
                  go_wp2_with fail
                  refine (Get_zr bP bS seed 5 (upd (upd M xk (some xv)) xk none) (d) xk 0 false u9 HI9.out (HT.out _ HB9.out) LX.out ⟨by rw [upd_same]; rfl, by rw [upd_same]; rfl⟩).mono ?_
                  rintro e u10 ⟨rfl, hb⟩
                  have HI10 := Lib.hid (HI9.out.below hb)
                  have HB10 := Lib.hid (HB9.out.trans (hb.mono HB9.out.size))
                  clear hb x1 x2 y1 HI9
                  obtain ⟨x1, x2, y1⟩ := HX.out u10 HB10.out
                  go_wp2_with fail
                  refine (Get_zr bP bS seed 5 (upd (upd M xk (some xv)) xk none) (d) yk z r u10 HI10.out (HT.out _ HB10.out) LY.out ⟨by rw [upd_other _ _ NE.out, upd_other _ _ NE.out]; exact FY.out.1, by rw [upd_other _ _ NE.out, upd_other _ _ NE.out]; exact FY.out.2⟩).mono ?_
                  rintro e u11 ⟨rfl, hb⟩
                  have HI11 := Lib.hid (HI10.out.below hb)
                  have HB11 := Lib.hid (HB10.out.trans (hb.mono HB10.out.size))
                  clear hb x1 x2 y1 HI10
                  obtain ⟨x1, x2, y1⟩ := HX.out u11 HB11.out
                  go_wp2_with fail
                  refine (Len_at bP bS seed 5 (upd (upd M xk (some xv)) xk none) (d) ((d : Int)) u11 HI11.out (by push_cast; rfl)).mono ?_
                  rintro e u12 ⟨rfl, hb⟩
                  have HI12 := Lib.hid (HI11.out.below hb)
                  have HB12 := Lib.hid (HB11.out.trans (hb.mono HB11.out.size))
                  clear hb x1 x2 y1 HI11
                  obtain ⟨x1, x2, y1⟩ := HX.out u12 HB12.out
                  go_wp2_with fail
                  refine (live_any u12 (HT.out _ HB12.out)).mono ?_
                  rintro e u13 ⟨rfl, hb⟩
                  have HI13 := Lib.hid (HI12.out.below hb)
                  have HB13 := Lib.hid (HB12.out.trans (hb.mono HB12.out.size))
                  clear hb x1 x2 y1 HI12
                  obtain ⟨x1, x2, y1⟩ := HX.out u13 HB13.out
                  go_wp2
                  go_ret
                  exact ⟨rfl, HOUT.out _ HB13.out⟩
            · have KB := Lib.hid hb
              have hn : M xk = none := by
                cases q : M xk with
                | none => rfl
                | some v => have := HIw.out.ok q; exact absurd ⟨this.1, this.2.1⟩ hb
              have FX := Lib.hid (show (M xk).getD 0 = 0 ∧ (M xk).isSome = false by rw [hn]; exact ⟨rfl, rfl⟩)
              clear hb hn
              by_cases hkk : xk = yk
              · subst hkk
                obtain ⟨x1, x2, y1⟩ := HX.out wr HBw.out
                go_wp2_with fail
                refine (Get_zr bP bS seed 5 (M) (c) xk 0 false wr HIw.out (HT.out _ HBw.out) LX.out FX.out).mono ?_
                rintro e u2 ⟨rfl, hb⟩
                have HI2 := Lib.hid (HIw.out.below hb)
                have HB2 := Lib.hid (HBw.out.trans (hb.mono HBw.out.size))
                clear hb x1 x2 y1 HIw
                obtain ⟨x1, x2, y1⟩ := HX.out u2 HB2.out
                go_wp2_with fail
                refine (Len_at bP bS seed 5 (M) (c) ((c : Int)) u2 HI2.out (by push_cast; rfl)).mono ?_
                rintro e u3 ⟨rfl, hb⟩
                have HI3 := Lib.hid (HI2.out.below hb)
                have HB3 := Lib.hid (HB2.out.trans (hb.mono HB2.out.size))
                clear hb x1 x2 y1 HI2
                obtain ⟨x1, x2, y1⟩ := HX.out u3 HB3.out
                go_wp2_with fail
                refine (Get_zr bP bS seed 5 (M) (c) xk 0 false u3 HI3.out (HT.out _ HB3.out) LX.out FX.out).mono ?_
                rintro e u4 ⟨rfl, hb⟩
                have HI4 := Lib.hid (HI3.out.below hb)
                have HB4 := Lib.hid (HB3.out.trans (hb.mono HB3.out.size))
                clear hb x1 x2 y1 HI3
                obtain ⟨x1, x2, y1⟩ := HX.out u4 HB4.out
                go_wp2_with fail
                refine (Put_badT bP bS seed 5 M c xk xv u4 HI4.out (HT.out _ HB4.out) LX.out HV.out KB.out).mono ?_
                rintro e u5 ⟨rfl, hT, hK⟩
                have HI5 := Lib.hid (show TT u5 bP bS seed 5 (M) (c) from hT)
                have HB5 := Lib.hid (HBK.out _ _ HB4.out hK)
                clear hT hK x1 x2 y1 HI4
                obtain ⟨x1, x2, y1⟩ := HX.out u5 HB5.out
                go_wp2_with fail
                refine (Get_zr bP bS seed 5 (M) (c) xk 0 false u5 HI5.out (HT.out _ HB5.out) LX.out FX.out).mono ?_
                rintro e u6 ⟨rfl, hb⟩
                have HI6 := Lib.hid (HI5.out.below hb)
                have HB6 := Lib.hid (HB5.out.trans (hb.mono HB5.out.size))
                clear hb x1 x2 y1 HI5
                obtain ⟨x1, x2, y1⟩ := HX.out u6 HB6.out
                go_wp2_with fail
                refine (Len_at bP bS seed 5 (M) (c) ((c : Int)) u6 HI6.out (by push_cast; rfl)).mono ?_
                rintro e u7 ⟨rfl, hb⟩
                have HI7 := Lib.hid (HI6.out.below hb)
                have HB7 := Lib.hid (HB6.out.trans (hb.mono HB6.out.size))
                clear hb x1 x2 y1 HI6
                obtain ⟨x1, x2, y1⟩ := HX.out u7 HB7.out
                go_wp2_with fail
                refine (live_any u7 (HT.out _ HB7.out)).mono ?_
                rintro e u8 ⟨rfl, hb⟩
                have HI8 := Lib.hid (HI7.out.below hb)
                have HB8 := Lib.hid (HB7.out.trans (hb.mono HB7.out.size))
                clear hb x1 x2 y1 HI7
                obtain ⟨x1, x2, y1⟩ := HX.out u8 HB8.out
                go_wp2
                go_ret
                exact ⟨rfl, HOUT.out _ HB8.out⟩
              · have NE := Lib.hid (fun (h : yk = xk) => hkk h.symm)
                have t1 := str_ne hkk
                have t2 := str_ne (fun h => hkk (Eq.symm h))
                obtain ⟨z, r, hzr⟩ : ∃ z r, (M yk).getD 0 = z ∧ (M yk).isSome = r := ⟨_, _, rfl, rfl⟩
                have FY := Lib.hid hzr
                clear hkk hzr
                obtain ⟨x1, x2, y1⟩ := HX.out wr HBw.out
                go_wp2_with fail
                refine (Get_zr bP bS seed 5 (M) (c) yk z r wr HIw.out (HT.out _ HBw.out) LY.out FY.out).mono ?_
                rintro e u2 ⟨rfl, hb⟩
                have HI2 := Lib.hid (HIw.out.below hb)
                have HB2 := Lib.hid (HBw.out.trans (hb.mono HBw.out.size))
                clear hb x1 x2 y1 HIw
                obtain ⟨x1, x2, y1⟩ := HX.out u2 HB2.out
                go_wp2_with fail
                refine (Len_at bP bS seed 5 (M) (c) ((c : Int)) u2 HI2.out (by push_cast; rfl)).mono ?_
                rintro e u3 ⟨rfl, hb⟩
                have HI3 := Lib.hid (HI2.out.below hb)
                have HB3 := Lib.hid (HB2.out.trans (hb.mono HB2.out.size))
                clear hb x1 x2 y1 HI2
                obtain ⟨x1, x2, y1⟩ := HX.out u3 HB3.out
                go_wp2_with fail
                refine (Get_zr bP bS seed 5 (M) (c) xk 0 false u3 HI3.out (HT.out _ HB3.out) LX.out FX.out).mono ?_
                rintro e u4 ⟨rfl, hb⟩
                have HI4 := Lib.hid (HI3.out.below hb)
                have HB4 := Lib.hid (HB3.out.trans (hb.mono HB3.out.size))
                clear hb x1 x2 y1 HI3
                obtain ⟨x1, x2, y1⟩ := HX.out u4 HB4.out
                go_wp2_with fail
                refine (Put_badT bP bS seed 5 M c xk xv u4 HI4.out (HT.out _ HB4.out) LX.out HV.out KB.out).mono ?_
                rintro e u5 ⟨rfl, hT, hK⟩
                have HI5 := Lib.hid (show TT u5 bP bS seed 5 (M) (c) from hT)
                have HB5 := Lib.hid (HBK.out _ _ HB4.out hK)
                clear hT hK x1 x2 y1 HI4
                obtain ⟨x1, x2, y1⟩ := HX.out u5 HB5.out
                go_wp2_with fail
                refine (Get_zr bP bS seed 5 (M) (c) yk z r u5 HI5.out (HT.out _ HB5.out) LY.out FY.out).mono ?_
                rintro e u6 ⟨rfl, hb⟩
                have HI6 := Lib.hid (HI5.out.below hb)
                have HB6 := Lib.hid (HB5.out.trans (hb.mono HB5.out.size))
                clear hb x1 x2 y1 HI5
                obtain ⟨x1, x2, y1⟩ := HX.out u6 HB6.out
                go_wp2_with fail
                refine (Len_at bP bS seed 5 (M) (c) ((c : Int)) u6 HI6.out (by push_cast; rfl)).mono ?_
                rintro e u7 ⟨rfl, hb⟩
                have HI7 := Lib.hid (HI6.out.below hb)
                have HB7 := Lib.hid (HB6.out.trans (hb.mono HB6.out.size))
                clear hb x1 x2 y1 HI6
                obtain ⟨x1, x2, y1⟩ := HX.out u7 HB7.out
                go_wp2_with fail
                refine (live_any u7 (HT.out _ HB7.out)).mono ?_
                rintro e u8 ⟨rfl, hb⟩
                have HI8 := Lib.hid (HI7.out.below hb)
                have HB8 := Lib.hid (HB7.out.trans (hb.mono HB7.out.size))
                clear hb x1 x2 y1 HI7
                obtain ⟨x1, x2, y1⟩ := HX.out u8 HB8.out
                go_wp2
                go_ret
                exact ⟨rfl, HOUT.out _ HB8.out⟩

theorem walk {W : World} (s : Int) (a : Option Addr) (len cap : Nat) (x y : OpR) (hs : (Lit.int .u64 s).wf = true) (ho : IsOps W a len cap) (hx : x.k.size ≤ maxLen) (hv : I64 x.v) (hy : y.k.size ≤ maxLen) (ht : TabW W) :
    Calls Tryd.prog 6 #[.int .u64 s, .slice a len cap, .agg #[.int .i64 x.d, .string x.k, .int .i64 x.v, .int .i64 y.d, .string y.k, .int .i64 y.v]] W fun e w' => e = .returned (.bool true) ∧ Below W.heap.size W w' := by
  obtain ⟨n, rfl, hn⟩ := wf_u hs
  obtain ⟨L, hL⟩ := ho
  exact walk1 n a len cap L x.d x.v y.d y.v x.k y.k hn W hL hx hv hy ht

theorem own : ownKnob Tryd.prog.godebug = none := by kernel_rfl
theorem laidOut : laidOutB Tryd.prog = true := by kernel_rfl
theorem contract (H : Type) (enc : TypeId × Value → H) (W : World) (base : Nat) (args : Array Value) (ds gs : List (DataW H)) (before : List MemPlace)
    (hval : ∀ (j : Nat) t v, Tryd.f6.params[j]? = some t → args[j]? = some v → Value.okWide Tryd.prog W .any base t v)
    (hW : DataW.Whole enc Tryd.prog Tryd.f6.params.toList Rows.robinPutsSpec.vars false W args.toList ds gs before) (hL : laidMetH Tryd.prog Rows.robinPutsRow.laid W) :
    Calls Tryd.prog 6 args W fun e W' => ∃ v, e = .returned v ∧ Rows.robinPutsSpec.post enc Tryd.prog Tryd.f6 false true false false W args v W' := by
  have hW' := hW
  obtain ⟨p, q, hA0, hV, rfl, hfz, hnd⟩ := hW
  have hA : DataW.TrodAll enc Tryd.prog W 0 (fun _ => true) true Tryd.f6.params.toList args.toList ds p := hA0
  rw [Tryd.params6] at hA hval
  obtain ⟨v0, vs0, d0, ds0, p0, q0, hargs, rfl, rfl, h0, r0⟩ := trodAll_cons hA
  obtain ⟨v1, vs1, d1, ds1, p1, q1, rfl, rfl, rfl, h1, r1⟩ := trodAll_cons r0
  obtain ⟨v2, vs2, d2, ds2, p2, q2, rfl, rfl, rfl, h2, r2⟩ := trodAll_cons r1
  obtain ⟨rfl, rfl, rfl⟩ := trodAll_nil r2
  obtain rfl : args = #[v0, v1, v2] := by cases args; simp_all
  obtain ⟨rfl, rfl⟩ := trodVars_none hV
  obtain ⟨a0, rfl, rfl, rfl, w0⟩ := open_int Tryd.underlying22 (hval 0 22 v0 rfl rfl) h0
  have k1 := h1
  have lt1 : ∀ x ∈ p1, x.block < W.heap.size := by obtain ⟨m, hm⟩ := k1; exact DataW.trod_lt m _ _ _ hm
  obtain ⟨a1, len1, cap1, rfl, w1⟩ := open_ops (hval 1 23 v1 rfl rfl) h1
  have k2 := h2
  have lt2 : ∀ x ∈ p2, x.block < W.heap.size := by obtain ⟨m, hm⟩ := k2; exact DataW.trod_lt m _ _ _ hm
  obtain ⟨x2, y2, rfl, wx2, wv2, wy2⟩ := open_two (hval 2 56 v2 rfl rfl) h2
  clear hA0
  refine (walk a0 a1 len1 cap1 x2 y2 w0 w1 wx2 wv2 wy2 (tabW_of hL)).mono fun e W' ⟨he, bel⟩ => ?_
  subst he
  exact ⟨_, rfl, _, _, _, [], _, [], hW', trodAll_mk1 (shut_bool Tryd.underlying4 _), (trodAll_cons_mk (shut_int Tryd.underlying22 w0) (trodAll_cons_mk (Below.trod laidOut (by kernel_rfl) (of_decide_eq_true (by kernel_rfl)) k1 bel lt1) (trodAll_cons_mk (Below.trod laidOut (by kernel_rfl) (of_decide_eq_true (by kernel_rfl)) k2 bel lt2) trodAll_mk0))), rfl, bel.frame _, fun h => by cases h⟩

theorem laid_met (os : Os) : laidMet Tryd.prog Rows.robinPutsRow.laid ((laidWorld os).forCall (fun _ _ => 0) ⟨#[], #[.int .u64 0, .slice none 0 0, .agg #[.int .i64 0, .string .empty, .int .i64 0, .int .i64 0, .string .empty, .int .i64 0]], []⟩).memory :=
  laidMet_of_run' 8 (by kernel_rfl) (by kernel_rfl)
theorem reads (os : Os) {H : Type} (enc : TypeId × Value → H) : ∃ places, DataW.whole enc Tryd.prog ((laidWorld os).forCall (fun _ _ => 0) ⟨#[], #[.int .u64 0, .slice none 0 0, .agg #[.int .i64 0, .string .empty, .int .i64 0, .int .i64 0, .string .empty, .int .i64 0]], []⟩).memory Tryd.f6.params.toList Rows.robinPutsSpec.vars false (#[.int .u64 0, .slice none 0 0, .agg #[.int .i64 0, .string .empty, .int .i64 0, .int .i64 0, .string .empty, .int .i64 0]] : Array Value).toList 8 = some ([.lit (.int .u64 0), .nil, .agg [.agg [.lit (.int .i64 0), .lit (.string []), .lit (.int .i64 0)], .agg [.lit (.int .i64 0), .lit (.string []), .lit (.int .i64 0)]]], [], places) :=
  ⟨[], by kernel_rfl⟩

set_option maxRecDepth 100000 in
theorem lifted (os : Os) (started : os.Started) (H : Type) (enc : TypeId × Value → H) (F : Stop.Interp) :
    ReturnsInHanded {} Tryd.checked os 6 .any ((OpenSpec.ofChange Rows.robinPutsSpec).preRow enc Tryd.prog Tryd.f6 Rows.robinPutsRow.domain false Rows.robinPutsRow.laid) (((OpenSpec.ofChange Rows.robinPutsSpec).at F).post enc Tryd.prog Tryd.f6 false true false false) := by
  obtain ⟨places, hx⟩ := reads os enc
  refine returnsInHanded_of_row (C := Tryd.checked) (s := OpenSpec.ofChange Rows.robinPutsSpec) own started (by kernel_rfl) Tryd.func6
    (witness_row_at (enc := enc) (C := Tryd.checked) false (laidWorld os) #[.int .u64 0, .slice none 0 0, .agg #[.int .i64 0, .string .empty, .int .i64 0, .int .i64 0, .string .empty, .int .i64 0]] rfl (by kernel_rfl) (by kernel_rfl) (by kernel_rfl)
      (OpenSpec.preRow_of_cond 8 hx (by kernel_rfl) (fun k hk => by cases hk) (by kernel_rfl) (laid_met os))) ?_
  intro W base args ds gs before hval hW _ _ _ hL _ _
  exact contract H enc W base args ds gs before hval hW hL

theorem said : Rows.RobinPutsSaid :=
  OpenClaim.holds_of_cond 6 Tryd.f6 rfl rfl rfl rfl rfl rfl rfl ⟨rfl, rfl, rfl, rfl, rfl⟩ rfl rfl rfl rfl rfl (by kernel_rfl) Tryd.func6 (by kernel_rfl)
    (of_decide_eq_true (by kernel_rfl)) (by unfold Func.isWrapper; first | (rw [if_pos (by decide +kernel)]; kernel_rfl) | (rw [if_neg (by decide +kernel)]; exact ⟨rfl, rfl⟩))
    (fun os started H enc _ F => by rw [OpenClaim.pre_eq_preRow]; exact lifted os started H enc F)
theorem plain (f : FuncId) (fn : Func) (hf : Tryd.pinned.checked.prog.funcNamed Rows.robinPutsRow.func = some f) (hfn : Tryd.pinned.checked.prog.funcs[f]? = some fn) :
    false = Tryd.pinned.checked.prog.looks [] ∧ ∀ (j : Nat) t, fn.params[j]? = some t → Tryd.pinned.checked.prog.wantsStandIn t = false := by
  obtain rfl : f = 6 := Option.some.inj ((show Tryd.prog.funcNamed Rows.robinPutsRow.func = some 6 by kernel_rfl).symm.trans hf) |>.symm
  obtain rfl : fn = Tryd.f6 := (Option.some.inj (Tryd.func6.symm.trans hfn)).symm
  refine ⟨by kernel_rfl, fun j t ht => ?_⟩
  rw [Tryd.params6] at ht
  have hm := Array.mem_of_getElem? ht
  simp only [List.mem_toArray, List.mem_cons, List.not_mem_nil, or_false] at hm
  rcases hm with rfl | rfl | rfl
  · exact (show Tryd.prog.wantsStandIn 22 = false by kernel_rfl)
  · exact (show Tryd.prog.wantsStandIn 23 = false by kernel_rfl)
  · exact (show Tryd.prog.wantsStandIn 56 = false by kernel_rfl)
theorem card : Rows.RobinPutsCardSaid :=
  Claim7.holds_tied_plain_at .later [] _ _ _ _ said (fun _ h => by cases h) (by kernel_rfl) (fun _ h => by cases h) robinPuts_row_tie rfl ⟨rfl, rfl⟩ (by kernel_rfl) rfl plain (by kernel_rfl)
end Go.Proofs.YtfhlffcmggjpdaaDoor.robinPuts
namespace Go.Proofs.YtfhlffcmggjpdaaDoor
theorem robinPuts_proved : Rows.RobinPutsCardSaid := robinPuts.card
end Go.Proofs.YtfhlffcmggjpdaaDoor

