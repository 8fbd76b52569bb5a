/- For all lists of ids the law RecentLast returns true: the order is that of each id's last touch (of at most 100 touches, else only the document's examples are asked). -/
import Derived.Test.YtjkejlnelkckgaaRcOps
import Derived.Test.YtjkejlnelkckgaaRows
namespace Go.Proofs.Ytjkejlnelkckgaa.recentLast
open Go.ChangeShapes Go.WideShapes Go.ChangeAt Go.RowKit
set_option linter.unusedVariables false

theorem wf_i {n : Int} (h : (Lit.int .i64 n).wf = true) : I64 n := wf_I64 h
/-- A slice of numbers that came in, cell by cell. -/
theorem cells_of {w : World} {A : Option Addr} {len cap : Nat} {zs : List Int} (h : IsInts .i64 w A len cap zs) :
    len ≤ cap ∧ len ≤ maxLen ∧ (0 < len → ∃ b off, A = some ⟨b, off, none⟩ ∧ b < w.heap.size ∧ ∀ i, i < len → ∃ z, w.cell? ⟨b, off + i, none⟩ = some (.int .i64 z) ∧ I64 z) := by
  rcases h with ⟨rfl, rfl, rfl, rfl⟩ | ⟨x, rfl, hl, hm, hz, hc, hw⟩
  · exact ⟨Nat.le_refl _, Nat.zero_le _, fun h => absurd h (by omega)⟩
  · refine ⟨hl, Nat.le_trans hl hm, fun h0 => ?_⟩
    obtain ⟨b, off, spot⟩ := x
    have h1 := hc 0 (by omega)
    have hspot : spot = none := by simpa [Addr.add] using World.cell?_spot h1
    subst hspot
    have e2 : ∀ i, (⟨b, off, none⟩ : Addr).add i = ⟨b, off + i, none⟩ := fun i => by unfold Addr.add; split <;> simp_all
    have hlt : b < w.heap.size := by
      have := block_lt_of_cell h1
      rw [e2] at this
      exact this
    refine ⟨b, off, rfl, hlt, fun i hi => ⟨zs.getD i 0, ?_, ?_⟩⟩
    · rw [← e2]; exact hc i (by omega)
    · have hi2 : i < zs.length := by omega
      rw [List.getD_eq_getElem?_getD, List.getElem?_eq_getElem hi2]
      exact wf_i (hw _ (List.getElem_mem hi2))
/-- Ints, as elements of a map. -/
def inE : Elem Int where
  val x := .int .i64 x
  dat x := .lit (.int .i64 x)
  zero := 0
  valI := fun a b h => by simpa using h
  datI := fun a b h => by simpa using h
theorem Try.zeroIn (w : World) : (zeroValue 3).run Try.prog w = .ok (inE.val inE.zero) w := by
  have : (Try.prog.info? 3).map (fun i => i.zero) = some (some (.int .i64 0)) := by kernel_rfl
  cases h : Try.prog.info? 3 with
  | none => rw [h] at this; cases this
  | some i => rw [h] at this; simp at this; simp [zeroValue, typeInfo, h, this, inE]
def vL (f : Int → Option Int) (x : Nat) : Int := (f (x : Int)).getD 0
/-- Each id's last touch, of the first j. -/
structure LastOf (l : List Nat) (f : Int → Option Int) (j : Nat) : Prop where
  dom : ∀ k, (f k).isSome = true ↔ ∃ x ∈ l, (x : Int) = k
  ord : l.Pairwise (fun x y => vL f x < vL f y)
  bd : ∀ x ∈ l, 0 ≤ vL f x ∧ vL f x < (j : Int)
theorem LastOf.touch {l : List Nat} {f : Int → Option Int} {j : Nat} (h : LastOf l f j) (y : Nat) : LastOf (flt l y ++ [y]) (fun k => if k = (y : Int) then some (j : Int) else f k) (j + 1) := by
  have hv : ∀ x, x ≠ y → vL (fun k => if k = (y : Int) then some (j : Int) else f k) x = vL f x := fun x hx => by
    unfold vL
    simp only
    rw [if_neg (by omega)]
  have hy : vL (fun k => if k = (y : Int) then some (j : Int) else f k) y = (j : Int) := by unfold vL; simp
  refine ⟨fun k => ?_, ?_, ?_⟩
  · by_cases e : k = (y : Int)
    · subst e; simp
    · simp only [if_neg e, h.dom, List.mem_append, List.mem_singleton]
      constructor
      · rintro ⟨x, hx, rfl⟩
        exact ⟨x, .inl (flt_mem.2 ⟨hx, fun q => e (by rw [q])⟩), rfl⟩
      · rintro ⟨x, hx | rfl, rfl⟩
        · exact ⟨x, (flt_mem.1 hx).1, rfl⟩
        · exact absurd rfl e
  · refine List.pairwise_append.2 ⟨?_, by simp, fun a ha b hb => ?_⟩
    · refine List.Pairwise.imp_of_mem (R := fun x z => vL f x < vL f z) (fun {a b} ha hb hab => ?_) (h.ord.sublist List.filter_sublist)
      rw [hv a (flt_mem.1 ha).2, hv b (flt_mem.1 hb).2]; exact hab
    · rw [List.mem_singleton.1 hb, hy, hv a (flt_mem.1 ha).2]
      exact (h.bd a (flt_mem.1 ha).1).2
  · intro x hx
    by_cases e : x = y
    · subst e; rw [hy]; omega
    · rw [hv x e]
      have hm : x ∈ l := by
        rcases List.mem_append.1 hx with q | q
        · exact (flt_mem.1 q).1
        · exact absurd (List.mem_singleton.1 q) e
      have := h.bd x hm
      omega
theorem LastOf.some {l : List Nat} {f : Int → Option Int} {j : Nat} (h : LastOf l f j) {x : Nat} (hx : x ∈ l) : (f (x : Int)).isSome = true ∧ (f (x : Int)).getD inE.zero = vL f x := ⟨(h.dom _).2 ⟨x, hx, rfl⟩, rfl⟩
theorem LastOf.count {l : List Nat} {f : Int → Option Int} {j n : Nat} (h : LastOf l f j) (hn : n = l.length) (hnd : l.Nodup) (y : Nat) : (if (f (y : Int)).isSome then n else n + 1) = (flt l y ++ [y]).length := by
  subst hn
  by_cases hm : y ∈ l
  · rw [if_pos ((h.dom _).2 ⟨y, hm, rfl⟩)]
    obtain ⟨l1, l2, rfl⟩ := mem_cut hm
    rw [flt_cut hnd]
    simp
  · rw [if_neg (fun q => by obtain ⟨x, hx, e⟩ := (h.dom _).1 q; have : x = y := by omega
                            exact hm (this ▸ hx)), flt_out hm]
    simp
set_option maxRecDepth 100000 in
set_option maxHeartbeats 4000000 in
theorem main (A : Option Addr) (len cap : Nat) (zs : List Int) {W : World} (hw : IsInts .i64 W A len cap zs) (h100 : len ≤ 100) :
    Calls Try.prog 7 #[.slice A len cap] W fun e w' => e = .returned (.bool true) ∧ Below W.heap.size W w' := by
  obtain ⟨hlc, hm, hcell⟩ := cells_of hw
  have HCELL := Lib.hid hcell
  have hmm := @run_makeMap Try.prog
  clear hw hcell hm
  go_enter Try.func7, Try.ntmps7
  go_wp2_with fail
  refine (New_T W).mono ?_
  rintro e w1 ⟨bP, bM, rfl, hW, hB, h1, h2⟩
  have HS0 := Lib.hid (hW.below (box_below (.map #[] 0)))
  have HB0 := Lib.hid (hB.alloc hB.size (.map #[] 0))
  have hlt := hW.lt
  have hsz := hB.size
  have HBK := Lib.hid (fun w' w'' (h : Below W.heap.size W w') (k : Kept (two bP bM) w' w'') => h.trans (k.below (B := W.heap.size) h.size (fun i hi hf => by rcases hf with e | e <;> omega)))
  have HM0 := Lib.hid (show IMap inE (w1.alloc (.map #[] 0)) w1.heap.size (fun _ => none) 0 from IMap.made w1)
  have HNE := Lib.hid (show w1.heap.size ≠ bP ∧ w1.heap.size ≠ bM ∧ W.heap.size ≤ w1.heap.size by omega)
  clear hW hB h1 h2 hlt hsz
  go_wp2_with fail
  generalize w1.heap.size = bL at *
  clear hmm
  go_loopw [5] (fun i wr => ∃ (j : Nat) (l : List Nat) (f : Int → Option Int), j ≤ len ∧ i = .int .i64 (j : Int) ∧ RC wr bP bM l ∧ IMap inE wr bL f l.length ∧ LastOf l f j ∧ l.length ≤ j ∧ Below W.heap.size W wr) (fun i _ => len - (intOf i).toNat)
  case atStart => exact ⟨0, [], fun _ => none, Nat.zero_le _, rfl, HS0.out, HM0.out, ⟨fun k => by simp, List.Pairwise.nil, by simp⟩, Nat.le_refl _, HB0.out⟩
  case round =>
    clear HS0 HB0 HM0
    obtain ⟨j, l, f, hj, rfl, hI, hM, hF, hn, hL⟩ := hrel
    have HI := Lib.hid hI
    have HM := Lib.hid hM
    have HF := Lib.hid hF
    have HL := Lib.hid hL
    have HN := Lib.hid hn
    clear hI hM hF hL hn
    by_cases hlt : j < len
    · obtain ⟨b, off, rfl, hb, hall⟩ := HCELL.out (by omega)
      obtain ⟨k, hk, hki⟩ := hall j hlt
      clear hall
      have c1 := (HL.out.cell (p := ⟨b, off + j, none⟩) hb).trans hk
      have HC1 := Lib.hid (fun u (hu : Below W.heap.size W u) => And.intro ((hu.cell (p := ⟨b, off + j, none⟩) hb).trans hk) (Nat.lt_of_lt_of_le hb hu.size))
      have hbr : b < wr.heap.size := Nat.lt_of_lt_of_le hb HL.out.size
      have HKK := Lib.hid hki
      clear hk hki
      by_cases k0 : 0 ≤ k
      · obtain ⟨y, rfl⟩ := Int.eq_ofNat_of_zero_le k0
        have HC := Lib.hid (Touch_T bP bM l wr HI.out y (by have := HKK.out; unfold I64 at this; omega) (by have := HN.out; omega))
        have HTT := Lib.hid (show (flt l y ++ [y]).length ≤ j + 1 by have := flt_le l y; have := HN.out; simp; omega)
        have HCN := Lib.hid (HF.out.count rfl HI.out.nd y)
        clear k0
        go_wp2_with fail
        refine HC.out.mono ?_
        rintro e w2 ⟨rfl, hW2, hK2⟩
        have HW2 := Lib.hid hW2
        have hl2 := HBK.out _ _ HL.out hK2
        have HL2 := Lib.hid hl2
        have HM2 := Lib.hid (HM.out.kept hK2 (fun e => by have := HNE.out; rcases e with e | e <;> omega))
        obtain ⟨y1, yb⟩ := HC1.out _ hl2
        clear hW2 hK2 HC hl2
        go_wp2_with (at_mapUpdate; refine wpList_mstore inE w2 rfl _ _ _ 43 3 rfl Try.underlying43 bL l.length f rfl HM2.out (by have := HN.out; unfold maxLen; omega) y rfl HKK.out j rfl _ HCN.out ?_)
        intro w3 hm3 hk3 hz3
        have HM3 := Lib.hid (show IMap inE w3 bL (fun k => if k = (y : Int) then some (j : Int) else f k) (flt l y ++ [y]).length from by first | exact hm3 | (rw [List.length_append, List.length_singleton]; exact hm3))
        have HW3 := Lib.hid (HW2.out.kept hk3 (fun e => HNE.out.1 e.symm) (fun e => HNE.out.2.1 e.symm))
        have HL3 := Lib.hid (HL2.out.trans (hk3.below HL2.out.size (fun b hb e => by have := HNE.out.2.2; omega)))
        clear hm3 hk3 hz3
        go_wp2
        go_roundw
        case rel => exact ⟨j + 1, _, _, by omega, by go_num, HW3.out, HM3.out, HF.out.touch y, HTT.out, HL3.out⟩
        case measure => simp [intOf]; omega
      · have HC := Lib.hid (Touch_no bP bM l wr HI.out k (by omega))
        have HTT := Lib.hid (show l.length ≤ j + 1 by have := HN.out; omega)
        have HF2 := Lib.hid (show LastOf l f (j + 1) from ⟨HF.out.dom, HF.out.ord, fun x hx => by have := HF.out.bd x hx; omega⟩)
        clear k0
        go_wp2_with fail
        refine HC.out.mono ?_
        rintro e w2 ⟨rfl, rfl⟩
        clear HC
        go_wp2
        go_roundw
        case rel => exact ⟨j + 1, _, _, by omega, by go_num, HI.out, HM.out, HF2.out, HTT.out, HL.out⟩
        case measure => simp [intOf]; omega
    · have hl100 : l.length ≤ 100 := by have := HN.out; omega
      have HO := Lib.hid (Order_T bP bM l wr HI.out (by omega))
      have hbL := HM.out.lt
      go_wp2_with fail
      refine HO.out.mono ?_
      rintro e w2 ⟨v, rfl, hO, hb2⟩
      obtain ⟨A2, c2, rfl, hI2⟩ := hO.ints
      have HI2 := Lib.hid hI2
      have hcap := hI2.1
      rw [List.length_map] at hcap
      have HM2 := Lib.hid (HM.out.kept (F := fun _ => False) (Kept.of_below hb2) id)
      have HL2 := Lib.hid (HL.out.trans (hb2.mono HL.out.size))
      have HND := Lib.hid HI.out.nd
      have HBD := Lib.hid (fun x (hx : x ∈ l) => I64_nat (HI.out.bd hx))
      clear hO hb2 hI2 HO HI
      obtain ⟨n, hn⟩ : ∃ n, l.length = n := ⟨_, rfl⟩
      have HLN := Lib.hid hn
      rw [hn] at hl100 hcap HM2 ⊢
      clear hn
      go_wp2_with fail
      go_loop [7, 8, 9] (fun i _ _ => ∃ t : Nat, t ≤ n ∧ i = .int .i64 (t : Int)) (fun i _ _ => n - (intOf i).toNat)
      case atStart => exact ⟨0, Nat.zero_le _, rfl⟩
      case round =>
        obtain ⟨t, ht, rfl⟩ := hrel
        by_cases htl : t < n
        · obtain ⟨x, hx⟩ : ∃ x, l[t]? = some x := ⟨_, List.getElem?_eq_getElem (by rw [HLN.out]; omega)⟩
          obtain ⟨g, rfl, hc⟩ := HI2.out.2 (by rw [List.length_map, HLN.out]; omega)
          have d0 := hc t (x : Int) (by rw [List.getElem?_map, hx]; rfl)
          have hxm := List.mem_of_getElem? hx
          obtain ⟨s1, s2⟩ := HF.out.some hxm
          have HS1 := Lib.hid s1
          have HS2 := Lib.hid s2
          have HK1 := Lib.hid (HBD.out x hxm)
          cases t with
          | zero =>
            clear hc s1 s2 hx hxm
            generalize vL f x = q at *
            go_wp2_with (at_lookup; refine wpList_mlook_ok inE w2 rfl _ _ 43 3 rfl Try.underlying43 (Try.zeroIn _) bL n f rfl HM2.out x rfl HK1.out q true HS2.out HS1.out (.int .i64 q) rfl ?_)
            go_wp2
            go_round
            case rel => exact ⟨1, by omega, by go_num⟩
            case measure => simp [intOf]; omega
          | succ t =>
            obtain ⟨y, hy⟩ : ∃ y, l[t]? = some y := ⟨_, List.getElem?_eq_getElem (by rw [HLN.out]; omega)⟩
            have d1 := hc t (y : Int) (by rw [List.getElem?_map, hy]; rfl)
            have hym := List.mem_of_getElem? hy
            obtain ⟨r1, r2⟩ := HF.out.some hym
            have HR2 := Lib.hid r2
            have HK2 := Lib.hid (HBD.out y hym)
            have hlt2 : vL f y < vL f x := by
              have hp := HF.out.ord
              rw [List.pairwise_iff_getElem] at hp
              have h1 := (List.getElem?_eq_some_iff.1 hy)
              have h2 := (List.getElem?_eq_some_iff.1 hx)
              have := hp t (t + 1) h1.1 h2.1 (by omega)
              rwa [h1.2, h2.2] at this
            have e1 : ((t + 1 : Nat) : Int) - 1 = (t : Int) := by omega
            clear hc s1 s2 hx hxm r1 r2 hy hym
            obtain ⟨q, hq⟩ : ∃ q, vL f x = q := ⟨_, rfl⟩
            obtain ⟨p, hp⟩ : ∃ p, vL f y = p := ⟨_, rfl⟩
            rw [hq] at HS2 hlt2
            rw [hp] at HR2 hlt2
            have t1 : decide (q ≤ p) = false := by simp; omega
            have hlk : (Instr.lookup 43 (.map (some bL)) (.int .i64 (y : Int)) false).run Try.prog w2 = .ok (.int .i64 p) w2 := by
              have := HM2.out.look Try.underlying43 (Try.zeroIn w2) HK2.out
              rw [HR2.out] at this
              exact this
            clear hq hp hlt2
            go_wp2_with (at_lookup; first | (refine wpList_mlook_ok inE w2 rfl _ _ 43 3 rfl Try.underlying43 (Try.zeroIn _) bL n f rfl HM2.out x rfl HK1.out q true HS2.out HS1.out (.int .i64 q) rfl ?_))
            go_round
            case rel => exact ⟨t + 2, by omega, by go_num⟩
            case measure => simp [intOf]; omega
        · go_wp2_with (at_len; refine wpList_mlen inE w2 rfl _ 43 3 rfl Try.underlying43 bL n f rfl HM2.out ?_)
          refine (live_any _).mono ?_
          rintro e w9 ⟨rfl, hb⟩
          have HB9 := Lib.hid (HL2.out.trans (hb.mono HL2.out.size))
          clear hb
          go_wp2
          go_ret
          exact ⟨rfl, HB9.out⟩
theorem walk (A : Option Addr) (len cap : Nat) (zs : List Int) {W : World} (hw : IsInts .i64 W A len cap zs) :
    Calls Try.prog 7 #[.slice A len cap] W fun e w' => e = .returned (.bool true) ∧ Below W.heap.size W w' := by
  by_cases hh : len ≤ 100
  · exact main A len cap zs hw hh
  · have hlm : len ≤ 9223372036854775807 := by have := (cells_of hw).2.1; unfold maxLen at *; omega
    clear hw
    go_enter Try.func7, Try.ntmps7
    go_wp2_with fail
    refine (New_T W).mono ?_
    rintro e w1 ⟨bP, bM, rfl, hW, hB, h1, h2⟩
    have HB := Lib.hid hB
    clear hW hB h1 h2
    go_wp2_with fail
    refine (live_any _).mono ?_
    rintro e w6 ⟨rfl, hb⟩
    have HB8 := Lib.hid (HB.out.trans (hb.mono HB.out.size))
    clear hb
    go_wp2
    go_ret
    exact ⟨rfl, HB8.out⟩

theorem own : ownKnob Try.prog.godebug = none := by kernel_rfl
theorem laidOut : laidOutB Try.prog = true := by kernel_rfl
theorem contract (H : Type) (enc : TypeId × Value → H) (W : World) (base : Nat) (args : Array Value) (ds gs : List (DataW H)) (before : List MemPlace)
    (hval : ∀ (j : Nat) t v, Try.f7.params[j]? = some t → args[j]? = some v → Value.okWide Try.prog W .any base t v)
    (hW : DataW.Whole enc Try.prog Try.f7.params.toList Rows.recentLastSpec.vars false W args.toList ds gs before) :
    Calls Try.prog 7 args W fun e W' => ∃ v, e = .returned v ∧ Rows.recentLastSpec.post enc Try.prog Try.f7 false true false false W args v W' := by
  have hW' := hW
  obtain ⟨p, q, hA0, hV, rfl, hfz, hnd⟩ := hW
  have hA : DataW.TrodAll enc Try.prog W 0 (fun _ => true) true Try.f7.params.toList args.toList ds p := hA0
  rw [Try.params7] at hA hval
  obtain ⟨v0, vs0, d0, ds0, p0, q0, hargs, rfl, rfl, h0, r0⟩ := trodAll_cons hA
  obtain ⟨rfl, rfl, rfl⟩ := trodAll_nil r0
  obtain rfl : args = #[v0] := by cases args; simp_all
  obtain ⟨rfl, rfl⟩ := trodVars_none hV
  have k0 := h0
  have lt0 : ∀ x ∈ p0, x.block < W.heap.size := by obtain ⟨m, hm⟩ := k0; exact DataW.trod_lt m _ _ _ hm
  obtain ⟨a0, len0, cap0, z0, rfl, w0⟩ := open_slice_int Try.underlying26 Try.underlying3 (by kernel_rfl) (hval 0 26 v0 rfl rfl) h0
  clear hA0
  refine (walk a0 len0 cap0 z0 w0).mono fun e W' ⟨he, bel⟩ => ?_
  subst he
  exact ⟨_, rfl, _, _, _, [], _, [], hW', trodAll_mk1 (shut_bool Try.underlying4 _), (trodAll_cons_mk (Below.trod laidOut (by kernel_rfl) (of_decide_eq_true (by kernel_rfl)) k0 bel lt0) trodAll_mk0), rfl, bel.frame _, fun h => by cases h⟩

set_option maxRecDepth 100000 in
theorem lifted (os : Os) (started : os.Started) (H : Type) (enc : TypeId × Value → H) :
    ReturnsInHanded {} Try.checked os 7 .any (Rows.recentLastSpec.pre6 enc Try.prog Try.f7 Rows.recentLastRow.domain false) (Rows.recentLastSpec.post enc Try.prog Try.f7 false true false false) := by
  refine returnsInHanded_of_change (C := Try.checked) own started (by kernel_rfl) Try.func7
    (ChangeSpec.witness6 (enc := enc) (C := Try.checked) false ⟨#[], #[.slice none 0 0], []⟩ 8 (by kernel_rfl) (by kernel_rfl) (by kernel_rfl) (by kernel_rfl)) ?_
  intro W base args ds gs before hval hW _ _
  exact contract H enc W base args ds gs before hval hW

theorem over : Rows.recentLastRow.holds Try.pinned (OpenSpec.ofChange Rows.recentLastSpec) :=
  OpenClaim.holds_of_wide 7 Try.f7 rfl rfl rfl rfl rfl rfl rfl ⟨rfl, rfl, rfl, rfl, rfl⟩ rfl rfl rfl rfl rfl (by kernel_rfl) Try.func7 (by kernel_rfl)
    (of_decide_eq_true (by kernel_rfl)) (by unfold Func.isWrapper; first | (rw [if_pos (by decide +kernel)]; kernel_rfl) | (rw [if_neg (by decide +kernel)]; exact ⟨rfl, rfl⟩))
    (fun os started H enc _ => lifted os started H enc)
end Go.Proofs.Ytjkejlnelkckgaa.recentLast
namespace Go.Proofs.Ytjkejlnelkckgaa
theorem recentLast_proved : Rows.RecentLastSaid := recentLast.over
end Go.Proofs.Ytjkejlnelkckgaa

