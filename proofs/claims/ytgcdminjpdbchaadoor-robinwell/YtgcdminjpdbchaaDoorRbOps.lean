/- A list of calls that came in, opened to its cells; few. -/
import Derived.Test.YtgcdminjpdbchaaDoorRbLive
import Derived.Test.YtgcdminjpdbchaaDoorHashTab
import Derived.Deep.Slices
import Derived.Deep.Fields
import Derived.ChangeSame
namespace Go.Proofs.YtgcdminjpdbchaaDoor
open Go.ChangeShapes Go.WideShapes Go.ChangeAt Go.RowKit
set_option linter.unusedVariables false

/-- A call: what is done, the key, the value. -/
structure OpR where
  d : Int
  k : ByteArray
  v : Int
/-- A call as it lies in memory, from there on. -/
structure OpAt (w : World) (b off : Nat) (o : OpR) : Prop where
  c0 : w.cell? ⟨b, off, none⟩ = some (.int .i64 o.d)
  c1 : w.cell? ⟨b, off + 1, none⟩ = some (.string o.k)
  c2 : w.cell? ⟨b, off + 2, none⟩ = some (.int .i64 o.v)
  w0 : I64 o.d
  w1 : o.k.size ≤ maxLen
  w2 : I64 o.v
def OpsAt (w : World) (A : Option Addr) (len cap : Nat) (L : Nat → OpR) : Prop :=
  len ≤ cap ∧ cap ≤ maxLen ∧ (0 < len → ∃ b off, A = some ⟨b, off, none⟩ ∧ b < w.heap.size ∧ ∀ i, i < len → OpAt w b (off + i * 3) (L i))
def IsOps (w : World) (A : Option Addr) (len cap : Nat) : Prop := ∃ L, OpsAt w A len cap L
theorem OpsAt.below {w w' : World} {A : Option Addr} {len cap : Nat} {L : Nat → OpR} (h : OpsAt w A len cap L) (hb : Below w.heap.size w w') : OpsAt w' A len cap L := by
  obtain ⟨h1, h2, h3⟩ := h
  refine ⟨h1, h2, fun h0 => ?_⟩
  obtain ⟨b, off, e, hlt, hall⟩ := h3 h0
  refine ⟨b, off, e, Nat.lt_of_lt_of_le hlt hb.size, fun i hi => ?_⟩
  have ho := hall i hi
  exact ⟨(hb.cell (p := ⟨b, _, none⟩) hlt).trans ho.c0, (hb.cell (p := ⟨b, _, none⟩) hlt).trans ho.c1, (hb.cell (p := ⟨b, _, none⟩) hlt).trans ho.c2, ho.w0, ho.w1, ho.w2⟩
theorem cellsOp : Tryd.prog.cellsOf 35 = 3 := by kernel_rfl
/-- A struct of fields of one cell each, read field by field. -/
theorem each_field {P : Program} {H : Type} {enc : TypeId × Value → H} {w : World} {base n : Nat} {spare : Nat → Bool} {held : Bool} {t : TypeId} {fs : Array Field} {vs : List Value} {x : DataW H × List MemPlace}
    (hs : P.underlying t = some (.struct fs)) (hone : Deep.oneCellFields P fs = true) (hl : vs.length = fs.size) (h : DataW.trod enc P w base spare held n t vs = some x) (i : Nat) (f : Field) (hf : fs[i]? = some f) :
    ∃ m v y, vs[i]? = some v ∧ DataW.trod enc P w base spare held m f.type [v] = some y := by
  obtain ⟨ys, m, _, _, _, hlen, hall⟩ := DataW.trod_struct hs h
  have hi : i < fs.size := (Array.getElem?_eq_some_iff.1 hf).1
  have h1 := hall i f hf
  obtain ⟨o1, o2⟩ := Deep.hone_of hone i f hf
  rw [o1, o2, List.drop_eq_getElem_cons (by omega), List.getElem?_eq_getElem (show i < ys.length by omega)] at h1
  exact ⟨m, vs[i], _, List.getElem?_eq_getElem (by omega), h1⟩
/-- The cells of one call, read. -/
theorem op_of {H : Type} {enc : TypeId × Value → H} {w : World} {base n : Nat} {spare : Nat → Bool} {held : Bool} {v0 v1 v2 : Value} {x : DataW H × List MemPlace} (h : DataW.trod enc Tryd.prog w base spare held n 35 [v0, v1, v2] = some x) :
    ∃ o : OpR, v0 = .int .i64 o.d ∧ v1 = .string o.k ∧ v2 = .int .i64 o.v ∧ I64 o.d ∧ o.k.size ≤ maxLen ∧ I64 o.v := by
  obtain ⟨_, u0, y0, e0, t0⟩ := each_field Tryd.underlying35 (by kernel_rfl) rfl h 0 _ rfl
  obtain ⟨_, u1, y1, e1, t1⟩ := each_field Tryd.underlying35 (by kernel_rfl) rfl h 1 _ rfl
  obtain ⟨_, u2, y2, e2, t2⟩ := each_field Tryd.underlying35 (by kernel_rfl) rfl h 2 _ rfl
  simp at e0 e1 e2
  subst e0 e1 e2
  obtain ⟨z0, r0, _, f0⟩ := DataW.trod_int Tryd.underlying3 t0
  obtain ⟨z1, r1, _, f1⟩ := DataW.trod_string Tryd.underlying9 t1
  obtain ⟨z2, r2, _, f2⟩ := DataW.trod_int Tryd.underlying3 t2
  simp at r0 r1 r2
  exact ⟨⟨z0, z1, z2⟩, r0, r1, r2, wf_I64 f0, f1, wf_I64 f2⟩
theorem isOps_of {w : World} {A : Option Addr} {len cap : Nat} (h1 : len ≤ cap) (h2 : cap ≤ maxLen) (h3 : 0 < len → ∃ b off, A = some ⟨b, off, none⟩ ∧ b < w.heap.size ∧ ∀ i, i < len → ∃ o, OpAt w b (off + i * 3) o) : IsOps w A len cap := by
  rcases Nat.eq_zero_or_pos len with e | hp
  · exact ⟨fun _ => ⟨0, ByteArray.empty, 0⟩, h1, h2, fun h => absurd h (by omega)⟩
  · obtain ⟨b, off, e, hlt, hall⟩ := h3 hp
    refine ⟨fun i => if h : i < len then Classical.choose (hall i h) else ⟨0, ByteArray.empty, 0⟩, h1, h2, fun _ => ⟨b, off, e, hlt, fun i hi => ?_⟩⟩
    dsimp only
    rw [dif_pos hi]
    exact Classical.choose_spec (hall i hi)
theorem open_ops {H : Type} {enc : TypeId × Value → H} {w : World} {r : Reach} {b0 base : Nat} {held : Bool} {v : Value} {d : DataW H} {p : List MemPlace} (hv : Value.okWide Tryd.prog w r b0 23 v)
    (h : DataW.Trod enc Tryd.prog w base (fun _ => true) held 23 v d p) : ∃ a len cap, v = .slice a len cap ∧ IsOps w a len cap := by
  obtain ⟨a, len, cap, rfl⟩ := okWide_slice Tryd.underlying23 hv
  obtain ⟨fuel, hf⟩ := h
  rcases Deep.open_slice Tryd.underlying23 hf with ⟨hcs, _⟩ | ⟨x, l, c, m, n, D, Pl, hcs, _, hl, hm, hmm, _, hi⟩
  · simp [Value.cells] at hcs
    obtain ⟨rfl, rfl, rfl⟩ := hcs
    exact ⟨_, _, _, rfl, isOps_of (Nat.le_refl _) (Nat.zero_le _) fun h => absurd h (by omega)⟩
  · simp [Value.cells] at hcs
    obtain ⟨rfl, rfl, rfl⟩ := hcs
    simp at hmm
    subst hmm
    rw [cellsOp] at hi
    refine ⟨_, _, _, rfl, isOps_of hl hm fun h0 => ?_⟩
    obtain ⟨b, off, spot⟩ := x
    obtain ⟨cs0, hc0, _⟩ := hi 0 (by omega)
    obtain ⟨_, hl0, hat0⟩ := World.cells?_some hc0
    have hs0 := hat0 0 (by decide)
    rw [List.getElem?_eq_getElem (show 0 < cs0.length by omega)] at hs0
    have hspot : spot = none := by simpa [Addr.add] using World.cell?_spot hs0
    subst hspot
    have e2 : ∀ b off i, (⟨b, off, none⟩ : Addr).add i = ⟨b, off + i, none⟩ := fun b off i => by unfold Addr.add; split <;> simp_all
    have hlt : b < w.heap.size := by
      have := block_lt_of_cell hs0
      rw [e2, e2] at this
      exact this
    refine ⟨b, off, rfl, hlt, fun i hil => ?_⟩
    obtain ⟨cs, hc, htr⟩ := hi i (by omega)
    obtain ⟨_, hlc, hat⟩ := World.cells?_some hc
    match cs, hlc with
    | [v0, v1, v2], _ =>
      obtain ⟨o, rfl, rfl, rfl, f0, f1, f2⟩ := op_of htr
      have a0 := hat 0 (by decide)
      have a1 := hat 1 (by decide)
      have a2 := hat 2 (by decide)
      simp only [e2] at a0 a1 a2
      exact ⟨o, ⟨a0, a1, a2, f0, f1, f2⟩⟩
def FewTold (len : Nat) (L : Nat → OpR) (most : Int) (w : World) (e : Ending) (w' : World) : Prop := ∃ r, e = .returned (.bool r) ∧ w = w' ∧ (r = true → (len : Int) ≤ most ∧ ∀ i, i < len → (L i).k.size ≤ 100)
set_option maxRecDepth 100000 in
theorem few_any (A : Option Addr) (len cap : Nat) (L : Nat → OpR) (most : Int) (w : World) (h : OpsAt w A len cap L) : Calls Tryd.prog 10 #[.slice A len cap, .int .i64 most] w (FewTold len L most w) := by
  obtain ⟨q1, q2, q3⟩ := h
  unfold maxLen at q2
  have HQ := Lib.hid q3
  clear q3
  by_cases hm : most < (len : Int)
  · go_enter Tryd.func10, Tryd.ntmps10
    go_wp2
    go_ret
    exact ⟨false, rfl, rfl, fun h => by cases h⟩
  · go_enter Tryd.func10, Tryd.ntmps10
    go_wp2
    go_loop [5] (fun i => ∃ j : Nat, j ≤ len ∧ i = .int .i64 (j : Int) ∧ Hid (∀ i, i < j → (L i).k.size ≤ 100)) (fun i => len - (intOf i).toNat)
    case atStart => exact ⟨0, Nat.zero_le _, rfl, fun i hi => absurd hi (by omega)⟩
    case round =>
      obtain ⟨j, hj, rfl, hI⟩ := hrel
      by_cases hlt : j < len
      · obtain ⟨b, off, rfl, hb, hall⟩ := HQ.out (by omega)
        have HO := Lib.hid (hall j hlt)
        have c1 := (hall j hlt).c1
        have z1 := (hall j hlt).w1
        unfold maxLen at z1
        have HS := Lib.hid (fun (h : ¬ 100 < (L j).k.size) (i : Nat) (hi : i < j + 1) => show (L i).k.size ≤ 100 by
          by_cases e : i = j
          · rw [e]; omega
          · exact hI.out i (by omega))
        clear hall hI
        generalize (L j).k = key at *
        by_cases hk : 100 < key.size
        · go_wp2
          go_ret
          exact ⟨false, rfl, rfl, fun h => by cases h⟩
        · have R := Lib.hid (HS.out hk)
          go_wp2
          go_round
          case rel => exact ⟨j + 1, by omega, by go_num, R.out⟩
          case measure => simp [intOf]; omega
      · have R := Lib.hid (show FewTold len L most w (.returned (.bool true)) w from ⟨true, rfl, rfl, fun _ => ⟨by omega, fun i hi => hI.out i (by omega)⟩⟩)
        go_wp2
        go_ret
        exact R.out
theorem Len_at (bP bS seed bits : Nat) (M : ByteArray → Option Int) (c : Nat) (z : Int) (w : World) (h : TT w bP bS seed bits M c) (hz : (c : Int) = z) :
    Calls Tryd.prog 15 #[.pointer (some ⟨bP, 0, none⟩)] w fun e w' => e = .returned (.int .i64 z) ∧ Below w.heap.size w w' := by
  rw [← hz]; exact Len_T bP bS seed bits M c w h
end Go.Proofs.YtgcdminjpdbchaaDoor
