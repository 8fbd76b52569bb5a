/- For every policy and every list of asks the law FixedRate returns true: what is let in in any one window is at most the Limit, and what is refused would have made it more. No condition. -/
import Derived.Test.YtdmephlappmmdabRows
import Derived.Test.YtdmephlappmmdabFxLive
import Derived.Test.YtdmephlappmmdabFx7
import Derived.Test.YtdmephlappmmdabCel0
import Derived.Deep.RegionHeld3
import Derived.Deep.DeepCutAuto
namespace Go.Proofs.Ytdmephlappmmdab.fixedRate
open Go.Joins Go.ChangeShapes Go.WideShapes Go.ChangeAt Go.RowKit Go.Deep
set_option linter.unusedVariables false

theorem cellsR : Try.prog.cellsOf 45 = 2 := by kernel_rfl
theorem open_rate {H : Type} {enc : TypeId × Value → H} {w : World} {base fuel : Nat} {held : Bool} {v : Value} {x : DataW H × List MemPlace}
    (hf : DataW.trod enc Try.prog w base (fun _ => true) held fuel 41 [v] = some x) : ∃ A len cap, v = .slice A len cap ∧ IsHits w A len cap := by
  rcases Deep.open_slice Try.underlying41 hf with ⟨hcs, _⟩ | ⟨x, l, c, m, n, D, Pl, hcs, _, hl, hm, hmm, _, hi⟩
  · simp at hcs
    exact ⟨_, _, _, hcs, Nat.le_refl _, Nat.zero_le _, fun h => absurd h (by omega)⟩
  · simp at hcs hmm
    subst hmm
    rw [cellsR] at hi
    refine ⟨_, _, _, hcs, hl, hm, fun h0 => ?_⟩
    obtain ⟨b, off, spot⟩ := x
    obtain ⟨cs0, hc0, _⟩ := hi 0 (by omega)
    obtain ⟨_, hl0, hat0⟩ := World.cells?_some hc0
    have hs0 := hat0 0 (by decide)
    rw [List.getElem?_eq_getElem (show 0 < cs0.length by omega)] at hs0
    have hspot : spot = none := by simpa [Addr.add] using World.cell?_spot hs0
    subst hspot
    have e2 : ∀ b off i, (⟨b, off, none⟩ : Addr).add i = ⟨b, off + i, none⟩ := fun b off i => by unfold Addr.add; split <;> simp_all
    have hlt : b < w.heap.size := by
      have := block_lt_of_cell hs0
      rw [e2, e2] at this
      exact this
    refine ⟨b, off, rfl, hlt, fun i hil => ?_⟩
    obtain ⟨cs, hc, htr⟩ := hi i (by omega)
    obtain ⟨_, hlc, hat⟩ := World.cells?_some hc
    match cs, hlc with
    | [v0, v1], _ =>
      obtain ⟨_, u0, y0, e0, t0⟩ := each_field Try.underlying45 (by kernel_rfl) rfl htr 0 _ rfl
      obtain ⟨_, u1, y1, e1, t1⟩ := each_field Try.underlying45 (by kernel_rfl) rfl htr 1 _ rfl
      simp at e0 e1
      subst e0 e1
      obtain ⟨z0, q0, _, _⟩ := DataW.trod_int Try.underlying3 t0
      obtain ⟨z1, q1, _, _⟩ := DataW.trod_int Try.underlying3 t1
      simp at q0 q1
      subst q0 q1
      have a0 := hat 0 (by decide)
      have a1 := hat 1 (by decide)
      simp only [e2] at a0 a1
      exact ⟨z0, z1, a0, a1⟩
theorem open_ops {H : Type} {enc : TypeId × Value → H} {w : World} {r : Reach} {b0 base : Nat} {held : Bool} {v : Value} {d : DataW H} {p : List MemPlace} (hv : Value.okWide Try.prog w r b0 41 v)
    (h : DataW.Trod enc Try.prog w base (fun _ => true) held 41 v d p) : ∃ A len cap, v = .slice A len cap ∧ IsHits w A len cap := by
  obtain ⟨a, len, cap, rfl⟩ := okWide_slice Try.underlying41 hv
  obtain ⟨fuel, hf⟩ := h
  exact open_rate (by simpa [Value.cells] using hf)

/-- The policy, and the cell as it stands. -/
structure RateAt (w0 : World) (k l v b : Int) (g : Nat) (t s : Int) (w : World) : Prop where
  p : Has w w0.heap.size 23 [.int .i64 k, .int .i64 l, .int .i64 v, .int .i64 b]
  c : Has w g 27 [.int .i64 t, .int .i64 s, .slice none 0 0, .slice none 0 0]
  be : Below w0.heap.size w0 w
  gl : w0.heap.size < g
theorem below_N {B : Nat} {w w' : World} (h : Below B w w') (m : Nat) : Below B w (w'.drewN m) := ⟨h.os, h.tape, h.output, h.size, h.block⟩
section
variable {w0 w w' : World} {k l v b t s : Int} {g : Nat}
theorem RateAt.step (h : RateAt w0 k l v b g t s w) (hb : Below w.heap.size w w') : RateAt w0 k l v b g t s w' := ⟨h.p.step hb, h.c.step hb, h.be.trans (hb.mono h.be.size), h.gl⟩
theorem RateAt.drewN (h : RateAt w0 k l v b g t s w) (m : Nat) : RateAt w0 k l v b g t s (w.drewN m) := ⟨h.p, h.c, below_N h.be m, h.gl⟩
theorem RateAt.drew (h : RateAt w0 k l v b g t s w) : RateAt w0 k l v b g t s w.drew := ⟨h.p, h.c, h.be.drew, h.gl⟩
theorem RateAt.alloc (h : RateAt w0 k l v b g t s w) (o : Obj) : RateAt w0 k l v b g t s (w.alloc o) := h.step ((Below.refl _ _).alloc (Nat.le_refl _) o)
theorem RateAt.cells (h : RateAt w0 k l v b g t s w) : (w.cell? ⟨w0.heap.size, 0, none⟩ = some (.int .i64 k) ∧ w.cell? ⟨w0.heap.size, 1, none⟩ = some (.int .i64 l) ∧ w.cell? ⟨w0.heap.size, 2, none⟩ = some (.int .i64 v) ∧ w.cell? ⟨w0.heap.size, 3, none⟩ = some (.int .i64 b)) ∧ w.cell? ⟨g, 0, none⟩ = some (.int .i64 t) ∧ w.cell? ⟨g, 1, none⟩ = some (.int .i64 s) ∧ w.cell? ⟨g, 2, none⟩ = some (.slice none 0 0) ∧ w.cell? ⟨g, 3, none⟩ = some (.slice none 0 0) := ⟨h.p.four, h.c.four⟩
theorem RateAt.set4 (h : RateAt w0 k l v b g t s w) {B : Nat} (hB : g < B) (x0 x1 x2 x3 : Value) : RateAt w0 k l v b g t s ((((w.setCell ⟨B, 0, none⟩ x0).setCell ⟨B, 1, none⟩ x1).setCell ⟨B, 2, none⟩ x2).setCell ⟨B, 3, none⟩ x3) := by
  have hl := h.gl
  exact ⟨h.p.set4 (by omega) _ _ _ _, h.c.set4 (by omega) _ _ _ _, (((h.be.setCell (p := ⟨B, 0, none⟩) (by show _ ≤ B; omega) _).setCell (p := ⟨B, 1, none⟩) (by show _ ≤ B; omega) _).setCell (p := ⟨B, 2, none⟩) (by show _ ≤ B; omega) _).setCell (p := ⟨B, 3, none⟩) (by show _ ≤ B; omega) _, h.gl⟩
theorem RateAt.lt (h : RateAt w0 k l v b g t s w) : g < w.heap.size := h.c.lt
end
theorem has_put4 {w : World} {g : Nat} {ty : TypeId} {a b c d : Value} (h : Has w g ty [a, b, c, d]) (x0 x1 x2 x3 : Value) : Has ((((w.setCell ⟨g, 0, none⟩ x0).setCell ⟨g, 1, none⟩ x1).setCell ⟨g, 2, none⟩ x2).setCell ⟨g, 3, none⟩ x3) g ty [x0, x1, x2, x3] := by
  have h4 := (((h.store 0 x0).store 1 x1).store 2 x2).store 3 x3
  simpa using h4
theorem has_drew {w : World} {g : Nat} {ty : TypeId} {ls : List Value} (h : Has w g ty ls) : Has w.drew g ty ls := h
theorem made10 (w : World) (t : TypeId) (ls : List Value) (o : Obj) : Has ((w.alloc o).alloc (.cells ls.toArray t)) (w.heap.size + 1) t ls := by
  have := Has.made (w.alloc o) t ls
  simpa using this
/-- What an ask told, wherever it lies. -/
def Got (w0 : World) (k l v b : Int) (g : Nat) (t s : Int) (T H : Int) (al : Bool) (rm rt rs : Int) (s9 s10 : Value) (w : World) : Prop :=
  ∃ g9 g10 : Nat, s9 = .pointer (some ⟨g9, 0, none⟩) ∧ s10 = .pointer (some ⟨g10, 0, none⟩) ∧ RateAt w0 k l v b g t s w ∧ Has w g9 27 [.int .i64 T, .int .i64 H, .slice none 0 0, .slice none 0 0] ∧ Has w g10 32 [.bool al, .int .i64 rm, .int .i64 rt, .int .i64 rs] ∧ g < g9 ∧ g < g10

section
variable {w0 w5 : World} {k l v b t s : Int} {g : Nat} {T H : Int} {al : Bool} {rm rt rs : Int}
theorem got0 (R : RateAt w0 k l v b g t s w5) : Got w0 k l v b g t s T H al rm rt rs (.pointer (some ⟨w5.heap.size, 0, none⟩)) (.pointer (some ⟨w5.heap.size + 1, 0, none⟩)) ((w5.alloc (.cells #[.int .i64 T, .int .i64 H, .slice none 0 0, .slice none 0 0] 27)).alloc (.cells #[.bool al, .int .i64 rm, .int .i64 rt, .int .i64 rs] 32)) :=
  ⟨_, _, rfl, rfl, (R.alloc _).alloc _, made1 w5 27 [.int .i64 T, .int .i64 H, .slice none 0 0, .slice none 0 0] _, made10 w5 32 [.bool al, .int .i64 rm, .int .i64 rt, .int .i64 rs] _, R.lt, Nat.lt_succ_of_lt R.lt⟩
theorem got1 (R : RateAt w0 k l v b g t s w5) : Got w0 k l v b g t s T H al rm rt rs (.pointer (some ⟨w5.heap.size + 1, 0, none⟩)) (.pointer (some ⟨w5.heap.size, 0, none⟩)) ((w5.alloc (.cells #[.bool al, .int .i64 rm, .int .i64 rt, .int .i64 rs] 32)).alloc (.cells #[.int .i64 T, .int .i64 H, .slice none 0 0, .slice none 0 0] 27)) :=
  ⟨_, _, rfl, rfl, (R.alloc _).alloc _, made10 w5 27 [.int .i64 T, .int .i64 H, .slice none 0 0, .slice none 0 0] _, made1 w5 32 [.bool al, .int .i64 rm, .int .i64 rt, .int .i64 rs] _, Nat.lt_succ_of_lt R.lt, R.lt⟩
theorem set4_size (w : World) (B : Nat) (x0 x1 x2 x3 : Value) : ((((w.setCell ⟨B, 0, none⟩ x0).setCell ⟨B, 1, none⟩ x1).setCell ⟨B, 2, none⟩ x2).setCell ⟨B, 3, none⟩ x3).heap.size = w.heap.size := by simp [World.setCell]
theorem madeS (w : World) (B : Nat) (x0 x1 x2 x3 : Value) (ty : TypeId) (ls : List Value) : Has (((((w.setCell ⟨B, 0, none⟩ x0).setCell ⟨B, 1, none⟩ x1).setCell ⟨B, 2, none⟩ x2).setCell ⟨B, 3, none⟩ x3).alloc (.cells ls.toArray ty)) w.heap.size ty ls := by
  have := Has.made ((((w.setCell ⟨B, 0, none⟩ x0).setCell ⟨B, 1, none⟩ x1).setCell ⟨B, 2, none⟩ x2).setCell ⟨B, 3, none⟩ x3) ty ls
  rwa [set4_size] at this
theorem got2 (R : RateAt w0 k l v b g t s w5) {B : Nat} {a b' c d : Value} (N : Has w5 B 27 [a, b', c, d]) (hB : g < B) : Got w0 k l v b g t s T H al rm rt rs (.pointer (some ⟨B, 0, none⟩)) (.pointer (some ⟨w5.heap.size, 0, none⟩)) (((((w5.setCell ⟨B, 0, none⟩ (.int .i64 T)).setCell ⟨B, 1, none⟩ (.int .i64 H)).setCell ⟨B, 2, none⟩ (.slice none 0 0)).setCell ⟨B, 3, none⟩ (.slice none 0 0)).alloc (.cells #[.bool al, .int .i64 rm, .int .i64 rt, .int .i64 rs] 32)) :=
  ⟨_, _, rfl, rfl, (R.set4 hB _ _ _ _).alloc _, (has_put4 N _ _ _ _).alloc _, madeS w5 B _ _ _ _ 32 [.bool al, .int .i64 rm, .int .i64 rt, .int .i64 rs], hB, R.lt⟩
theorem got3 (R : RateAt w0 k l v b g t s w5) {B : Nat} {a b' c d : Value} (N : Has w5 B 32 [a, b', c, d]) (hB : g < B) : Got w0 k l v b g t s T H al rm rt rs (.pointer (some ⟨w5.heap.size, 0, none⟩)) (.pointer (some ⟨B, 0, none⟩)) (((((w5.setCell ⟨B, 0, none⟩ (.bool al)).setCell ⟨B, 1, none⟩ (.int .i64 rm)).setCell ⟨B, 2, none⟩ (.int .i64 rt)).setCell ⟨B, 3, none⟩ (.int .i64 rs)).alloc (.cells #[.int .i64 T, .int .i64 H, .slice none 0 0, .slice none 0 0] 27)) :=
  ⟨_, _, rfl, rfl, (R.set4 hB _ _ _ _).alloc _, madeS w5 B _ _ _ _ 27 [.int .i64 T, .int .i64 H, .slice none 0 0, .slice none 0 0], (has_put4 N _ _ _ _).alloc _, R.lt, hB⟩
theorem got4 (R : RateAt w0 k l v b g t s w5) {B B' : Nat} {a b' c d a2 b2 c2 d2 : Value} (N : Has w5 B 27 [a, b', c, d]) (N' : Has w5 B' 32 [a2, b2, c2, d2]) (hB : g < B) (hB' : g < B') (hn : B ≠ B') : Got w0 k l v b g t s T H al rm rt rs (.pointer (some ⟨B, 0, none⟩)) (.pointer (some ⟨B', 0, none⟩)) ((((((((w5.setCell ⟨B, 0, none⟩ (.int .i64 T)).setCell ⟨B, 1, none⟩ (.int .i64 H)).setCell ⟨B, 2, none⟩ (.slice none 0 0)).setCell ⟨B, 3, none⟩ (.slice none 0 0)).setCell ⟨B', 0, none⟩ (.bool al)).setCell ⟨B', 1, none⟩ (.int .i64 rm)).setCell ⟨B', 2, none⟩ (.int .i64 rt)).setCell ⟨B', 3, none⟩ (.int .i64 rs)) :=
  ⟨_, _, rfl, rfl, (R.set4 hB _ _ _ _).set4 hB' _ _ _ _, (has_put4 N _ _ _ _).set4 hn _ _ _ _, has_put4 (N'.set4 (Ne.symm hn) _ _ _ _) _ _ _ _, hB, hB'⟩
theorem ne1 (n : Nat) : n ≠ n + 1 := by omega
theorem ne2 (n : Nat) : n + 1 ≠ n := by omega
end

/-- What the region of an ask reads. -/
abbrev Rd (W : World) (k l v b : Int) (g : Nat) (t s : Int) (b1 o : Nat) (m : Int) (w' : World) : Prop := ((w'.cell? ⟨W.heap.size, 0, none⟩ = some (.int .i64 k) ∧ w'.cell? ⟨W.heap.size, 1, none⟩ = some (.int .i64 l) ∧ w'.cell? ⟨W.heap.size, 2, none⟩ = some (.int .i64 v) ∧ w'.cell? ⟨W.heap.size, 3, none⟩ = some (.int .i64 b)) ∧ w'.cell? ⟨g, 0, none⟩ = some (.int .i64 t) ∧ w'.cell? ⟨g, 1, none⟩ = some (.int .i64 s) ∧ w'.cell? ⟨g, 2, none⟩ = some (.slice none 0 0) ∧ w'.cell? ⟨g, 3, none⟩ = some (.slice none 0 0)) ∧ w'.cell? ⟨b1, o, none⟩ = some (.int .i64 m)
theorem rd_alloc {W w' : World} {k l v b t s m : Int} {g b1 o : Nat} (h : Rd W k l v b g t s b1 o m w') (x : Obj) : Rd W k l v b g t s b1 o m (w'.alloc x) := by
  obtain ⟨⟨⟨h0, h1, h2, h3⟩, h4, h5, h6, h7⟩, h8⟩ := h
  have q : ∀ a y, w'.cell? a = some y → (w'.alloc x).cell? a = some y := fun a y hy => by rw [World.cell?_alloc_some w' a x (by rw [hy]; rfl)]; exact hy
  exact ⟨⟨⟨q _ _ h0, q _ _ h1, q _ _ h2, q _ _ h3⟩, q _ _ h4, q _ _ h5, q _ _ h6, q _ _ h7⟩, q _ _ h8⟩
theorem rd_set {W w' : World} {k l v b t s m : Int} {g b1 o B i : Nat} {x : Value} (h : Rd W k l v b g t s b1 o m w') (e1 : W.heap.size < B) (e2 : g < B) (e3 : b1 < B) : Rd W k l v b g t s b1 o m (w'.setCell ⟨B, i, none⟩ x) := by
  obtain ⟨⟨⟨h0, h1, h2, h3⟩, h4, h5, h6, h7⟩, h8⟩ := h
  have q : ∀ (c j : Nat), c < B → (w'.setCell ⟨B, i, none⟩ x).cell? ⟨c, j, none⟩ = w'.cell? ⟨c, j, none⟩ := fun c j hc => World.cell?_of_block (w := w') (Below.heap_setCell w' ⟨B, i, none⟩ x c (by show c ≠ B; omega))
  exact ⟨⟨⟨(q _ _ e1).trans h0, (q _ _ e1).trans h1, (q _ _ e1).trans h2, (q _ _ e1).trans h3⟩, (q _ _ e2).trans h4, (q _ _ e2).trans h5, (q _ _ e2).trans h6, (q _ _ e2).trans h7⟩, (q _ _ e3).trans h8⟩
theorem RateAt.rd {W w : World} {k l v b t s m : Int} {g b1 o : Nat} (h : RateAt W k l v b g t s w) (hb1 : b1 < W.heap.size) (hm : W.cell? ⟨b1, o, none⟩ = some (.int .i64 m)) : Rd W k l v b g t s b1 o m w := ⟨h.cells, (h.be.cell (p := ⟨b1, o, none⟩) hb1).trans hm⟩

set_option maxRecDepth 100000 in
set_option maxHeartbeats 8000000 in
theorem main (k l v b : Int) (A : Option Addr) (len cap : Nat) (f h : Nat → Int) (W : World) (hL : len ≤ 40) (hP : MayP k l v b) (hk : k = 2) (hh : HitsAt W A len f h) :
    Calls Try.prog 6 #[.agg #[.int .i64 k, .int .i64 l, .int .i64 v, .int .i64 b], .slice A len cap] W fun e w' => e = .returned (.bool true) ∧ Below W.heap.size W w' := by
  have CK := Lib.hid (fun u => rCheck_yes k l v b u hP)
  have HH := Lib.hid hh
  have HP := Lib.hid hP
  have HK := Lib.hid hk
  obtain ⟨l1, l2, v1, v2⟩ := hP.lv
  have tk : (k != 2) = false := by simp [hk]
  have P0 := Lib.hid (Has.made W 23 [.int .i64 k, .int .i64 l, .int .i64 v, .int .i64 b])
  have Q0 := Lib.hid ((Below.refl W.heap.size W).alloc (Nat.le_refl _) (.cells #[.int .i64 k, .int .i64 l, .int .i64 v, .int .i64 b] 23))
  clear hh hP hk
  go_enter Try.func6, Try.ntmps6
  go_wp2_with fail
  refine (CK.out _).mono ?_; rintro e w1 ⟨rfl, hb⟩
  have hz : RateAt W k l v b w1.heap.size 0 0 (w1.alloc (.cells #[.int .i64 0, .int .i64 0, .slice none 0 0, .slice none 0 0] 27)) := by
    have q := P0.out.below hb P0.out.lt
    have q2 : Below W.heap.size W w1 := Q0.out.trans (hb.mono Q0.out.size)
    have q3 := q.lt
    exact ⟨q.alloc _, Has.made w1 27 [.int .i64 0, .int .i64 0, .slice none 0 0, .slice none 0 0], q2.alloc q2.size _, q3⟩
  have j0 := (P0.out.below hb P0.out.lt).cell 0
  simp at j0
  clear hb P0 Q0 CK
  go_wp2_with fail
  clear j0
  generalize w1.alloc (.cells #[.int .i64 0, .int .i64 0, .slice none 0 0, .slice none 0 0] 27) = w2 at hz ⊢
  generalize w1.heap.size = g at hz ⊢
  have R0 := Lib.hid hz
  clear hz
  go_loopw [6, 7, 8] (fun vt vs vi wr => ∃ (j : Nat) (t s : Int), j ≤ len ∧ vi = .int .i64 (j : Int) ∧ vt = .int .i64 t ∧ vs = .int .i64 s ∧ 0 ≤ t ∧ t ≤ j * 1048576 ∧ 0 ≤ s ∧ s ≤ l ∧ RateAt W k l v b g t s wr) (fun _ _ vi _ => len - (intOf vi).toNat)
  case atStart => exact ⟨0, 0, 0, Nat.zero_le _, rfl, rfl, rfl, by omega, by omega, by omega, by omega, R0.out⟩
  case round =>
    obtain ⟨j, t, s, hj, rfl, rfl, rfl, t0, t1, s0, s1, hr⟩ := hrel
    have R1 := Lib.hid hr
    clear hr R0
    by_cases hlt : j < len
    · obtain ⟨b1, o1, rfl, hb1, hf⟩ := HH.out (by omega)
      obtain ⟨hf1, hf2⟩ := hf j hlt
      clear hf
      generalize f j = y at hf1
      generalize h j = m at hf2
      have X1 := Lib.hid hf1
      have X2 := Lib.hid hf2
      have q1 := (R1.out.be.cell (p := ⟨b1, o1 + j * 2, none⟩) hb1).trans hf1
      have q2 := (R1.out.be.cell (p := ⟨b1, o1 + j * 2 + 1, none⟩) hb1).trans hf2
      clear hf1 hf2
      obtain ⟨⟨j0, j1, j2, j3⟩, c0, c1, c2, c3⟩ := R1.out.cells
      by_cases hy : y < 0
      · go_wp2_with fail
        refine (live_any _).mono ?_; rintro e wl ⟨rfl, hb⟩
        have RL := Lib.hid (R1.out.step hb)
        clear hb
        go_wp2_with fail
        go_ret
        exact ⟨rfl, RL.out.be⟩
      by_cases hy2 : 1048576 < y
      · go_wp2_with fail
        refine (live_any _).mono ?_; rintro e wl ⟨rfl, hb⟩
        have RL := Lib.hid (R1.out.step hb)
        clear hb
        go_wp2_with fail
        go_ret
        exact ⟨rfl, RL.out.be⟩
      by_cases hm : 1 ≤ m ∧ m ≤ 1048576
      · obtain ⟨m1, m2⟩ := hm
        have WK := Lib.hid (fun u => rWeighs_yes m u m1 m2)
        have e1 : IntKind.i64.wrap (t + y) = t + y := wrap_i (by omega) (by omega)
        have e2 : (t + y).tdiv v = (t + y) / v := tdiv_i (by omega)
        have e3 : t.tdiv v = t / v := tdiv_i (by omega)
        have e4 : IntKind.i64.wrap ((t + y) / v) = (t + y) / v := by obtain ⟨q0, q1, _⟩ := win_bd (show 0 ≤ t + y by omega) v1; exact wrap_i (by omega) (by omega)
        have e5 : IntKind.i64.wrap (t / v) = t / v := by obtain ⟨q0, q1, _⟩ := win_bd t0 v1; exact wrap_i (by omega) (by omega)
        have vz : (v == 0) = false := by simp; omega
        go_wp2_with fail
        refine (WK.out _).mono ?_; rintro e w' ⟨rfl, rfl⟩
        go_upto_region 11 with (fail)
        go_quiet (fail)
        have hr := R1.out.drewN nq
        clear q1 q2 e2 e3 e4 e5 vz R1
        clear j0 j1 j2 j3 c0 c1 c2 c3
        generalize World.drewN _ nq = wa at hr ⊢
        have R2 := Lib.hid hr
        clear hr
        go_upto_if 70 with (fail)
        go_cut [7] (fun s7 wx => s7 = .int .i64 (totF v t s (t + y)) ∧ wa = wx)
        case first =>
          by_cases hw : (t + y) / v = t / v
          · have E := Lib.hid (show s = totF v t s (t + y) from (if_pos hw).symm)
            have d1 : ((t + y) / v != t / v) = false := by simp [hw]
            clear hw
            go_wp2_with fail
            go_meet
            exact ⟨by rw [← E.out], rfl⟩
          · have E := Lib.hid (show 0 = totF v t s (t + y) from (if_neg hw).symm)
            have d1 : ((t + y) / v != t / v) = true := by simp [hw]
            clear hw
            go_wp2_with fail
            go_meet
            exact ⟨by rw [← E.out], rfl⟩
        case rest =>
        obtain ⟨rfl, rfl⟩ := hcut
        have tb := totF_bd (v := v) (a := t) (t := t + y) s0 s1
        have K := Ask_yes k l v b t s (t + y) m none none 0 0 0 0
        have KA : MayA k l v b t s (t + y) m 0 0 := ⟨⟨HP.out, HK.out, ⟨by omega, by omega⟩, s0, s1, rfl, rfl⟩, ⟨by omega, by omega⟩, ⟨m1, m2⟩⟩
        have KK := Lib.hid (fun u => K u KA)
        have hT : tmax (t + y) t = t + y := tmax_hi (by omega)
        have hA : askAl l v t s (t + y) m = decide (totF v t s (t + y) + m ≤ l) := by unfold askAl; rw [hT]
        have hH : askHas l v t s (t + y) m = if totF v t s (t + y) + m ≤ l then totF v t s (t + y) + m else totF v t s (t + y) := by unfold askHas; rw [hT]
        have hb := askHas_bd (v := v) (a := t) (t := t + y) (m := m) s0 s1 (show 0 ≤ m by omega)
        unfold askV at KK
        rw [hT] at KK
        have RM := Lib.hid (show l - askHas l v t s (t + y) m = askRm l v t s (t + y) m from rfl)
        generalize askRm l v t s (t + y) m = rm at *
        generalize askRt l v t s (t + y) m = rt at *
        generalize askRs l v t s (t + y) m = rs at *
        have HA := Lib.hid hA
        have HE := Lib.hid hH
        clear hT hA hH K KA
        generalize askAl l v t s (t + y) m = al at *
        generalize askHas l v t s (t + y) m = H at *
        generalize totF v t s (t + y) = S at *
        obtain ⟨tb1, tb2⟩ := tb
        obtain ⟨hb2, hb3⟩ := hb
        obtain ⟨T, hTT⟩ : ∃ T, t + y = T := ⟨_, rfl⟩
        rw [hTT] at KK e1
        have ET := Lib.hid hTT
        obtain ⟨⟨j0, j1, j2, j3⟩, c0, c1, c2, c3⟩ := R2.out.cells
        have q1 := (R2.out.be.cell (p := ⟨b1, o1 + j * 2, none⟩) hb1).trans X1.out
        have q2 := (R2.out.be.cell (p := ⟨b1, o1 + j * 2 + 1, none⟩) hb1).trans X2.out
        go_upto_region 14 with (fail)
        clear q1 q2 e1 hTT
        clear j0 j1 j2 j3 c0 c1 c2 c3
        have B0 : (0 : Int) ≤ (j : Int) := by omega
        have B1 : (j : Int) < (len : Int) := by omega
        go_cut [9, 10] (fun s9 s10 wx => Got W k l v b g t s T H al rm rt rs s9 s10 wx)
        case first =>
          have G2 := Lib.hid R2.out.lt
          have G3 := Lib.hid (show g < wa.heap.size + 1 from Nat.lt_succ_of_lt R2.out.lt)
          go_region_held3 (fun w' => ((w'.cell? ⟨W.heap.size, 0, none⟩ = some (.int .i64 k) ∧ w'.cell? ⟨W.heap.size, 1, none⟩ = some (.int .i64 l) ∧ w'.cell? ⟨W.heap.size, 2, none⟩ = some (.int .i64 v) ∧ w'.cell? ⟨W.heap.size, 3, none⟩ = some (.int .i64 b)) ∧ w'.cell? ⟨g, 0, none⟩ = some (.int .i64 t) ∧ w'.cell? ⟨g, 1, none⟩ = some (.int .i64 s) ∧ w'.cell? ⟨g, 2, none⟩ = some (.slice none 0 0) ∧ w'.cell? ⟨g, 3, none⟩ = some (.slice none 0 0)) ∧ w'.cell? ⟨b1, o1 + j * 2 + 1, none⟩ = some (.int .i64 m)) (first | (with_reducible exact R2.out.rd hb1 X2.out) | (with_reducible exact R2.out.drew.rd hb1 X2.out) | (with_reducible exact (R2.out.alloc (.cells #[.int .i64 0, .int .i64 0, .slice none 0 0, .slice none 0 0] 27)).rd hb1 X2.out) | (with_reducible exact (R2.out.alloc (.cells #[.int .i64 0, .int .i64 0, .slice none 0 0, .slice none 0 0] 27)).drew.rd hb1 X2.out) | (with_reducible exact (R2.out.drew.alloc (.cells #[.int .i64 0, .int .i64 0, .slice none 0 0, .slice none 0 0] 27)).rd hb1 X2.out) | (with_reducible exact (R2.out.alloc (.cells #[.bool false, .int .i64 0, .int .i64 0, .int .i64 0] 32)).rd hb1 X2.out) | (with_reducible exact (R2.out.alloc (.cells #[.bool false, .int .i64 0, .int .i64 0, .int .i64 0] 32)).drew.rd hb1 X2.out) | (with_reducible exact (R2.out.drew.alloc (.cells #[.bool false, .int .i64 0, .int .i64 0, .int .i64 0] 32)).rd hb1 X2.out) | (with_reducible exact ((R2.out.alloc (.cells #[.int .i64 0, .int .i64 0, .slice none 0 0, .slice none 0 0] 27)).alloc (.cells #[.bool false, .int .i64 0, .int .i64 0, .int .i64 0] 32)).rd hb1 X2.out) | (with_reducible exact ((R2.out.alloc (.cells #[.bool false, .int .i64 0, .int .i64 0, .int .i64 0] 32)).alloc (.cells #[.int .i64 0, .int .i64 0, .slice none 0 0, .slice none 0 0] 27)).rd hb1 X2.out) | (with_reducible exact ((R2.out.alloc (.cells #[.int .i64 0, .int .i64 0, .slice none 0 0, .slice none 0 0] 27)).alloc (.cells #[.bool false, .int .i64 0, .int .i64 0, .int .i64 0] 32)).drew.rd hb1 X2.out) | (with_reducible exact ((R2.out.alloc (.cells #[.bool false, .int .i64 0, .int .i64 0, .int .i64 0] 32)).alloc (.cells #[.int .i64 0, .int .i64 0, .slice none 0 0, .slice none 0 0] 27)).drew.rd hb1 X2.out) | (with_reducible exact R5.out.rd hb1 X2.out) | (with_reducible exact (R5.out.alloc _).rd hb1 X2.out) | (with_reducible exact ((R5.out.alloc _).alloc _).rd hb1 X2.out) | (with_reducible exact (R5.out.set4 G2.out _ _ _ _).rd hb1 X2.out) | (with_reducible exact ((R5.out.set4 G2.out _ _ _ _).alloc _).rd hb1 X2.out) | (with_reducible exact (R5.out.set4 G3.out _ _ _ _).rd hb1 X2.out) | (with_reducible exact ((R5.out.set4 G3.out _ _ _ _).alloc _).rd hb1 X2.out) | (with_reducible exact ((R5.out.set4 G2.out _ _ _ _).set4 G3.out _ _ _ _).rd hb1 X2.out) | (with_reducible exact ((R5.out.set4 G3.out _ _ _ _).set4 G2.out _ _ _ _).rd hb1 X2.out) | go_keep) (first | (go_at_call 10; (with_reducible refine (KK.out _).mono ?_); rintro e w5 ⟨rfl, hb⟩; first | ((with_reducible have R5 := Lib.hid ((R2.out.drew).step hb)); clear hb) | ((with_reducible have R5 := Lib.hid (((R2.out.alloc (.cells #[.int .i64 0, .int .i64 0, .slice none 0 0, .slice none 0 0] 27)).drew).step hb)); have N9 := Lib.hid ((has_drew (Has.made wa 27 [.int .i64 0, .int .i64 0, .slice none 0 0, .slice none 0 0])).step hb); obtain ⟨n90, n91, n92, n93⟩ := N9.out.four; have n9f := N9.out.loose; have n9l := N9.out.lt; clear hb) | ((with_reducible have R5 := Lib.hid ((R2.out.drew.alloc (.cells #[.int .i64 0, .int .i64 0, .slice none 0 0, .slice none 0 0] 27)).step hb)); have N9 := Lib.hid ((Has.made wa.drew 27 [.int .i64 0, .int .i64 0, .slice none 0 0, .slice none 0 0]).step hb); obtain ⟨n90, n91, n92, n93⟩ := N9.out.four; have n9f := N9.out.loose; have n9l := N9.out.lt; clear hb) | ((with_reducible have R5 := Lib.hid (((R2.out.alloc (.cells #[.bool false, .int .i64 0, .int .i64 0, .int .i64 0] 32)).drew).step hb)); have N10 := Lib.hid ((has_drew (Has.made wa 32 [.bool false, .int .i64 0, .int .i64 0, .int .i64 0])).step hb); obtain ⟨n100, n101, n102, n103⟩ := N10.out.four; have n10f := N10.out.loose; have n10l := N10.out.lt; clear hb) | ((with_reducible have R5 := Lib.hid ((R2.out.drew.alloc (.cells #[.bool false, .int .i64 0, .int .i64 0, .int .i64 0] 32)).step hb)); have N10 := Lib.hid ((Has.made wa.drew 32 [.bool false, .int .i64 0, .int .i64 0, .int .i64 0]).step hb); obtain ⟨n100, n101, n102, n103⟩ := N10.out.four; have n10f := N10.out.loose; have n10l := N10.out.lt; clear hb) | ((with_reducible have R5 := Lib.hid ((((R2.out.alloc (.cells #[.int .i64 0, .int .i64 0, .slice none 0 0, .slice none 0 0] 27)).alloc (.cells #[.bool false, .int .i64 0, .int .i64 0, .int .i64 0] 32)).drew).step hb)); have N9 := Lib.hid ((has_drew ((Has.made wa 27 [.int .i64 0, .int .i64 0, .slice none 0 0, .slice none 0 0]).alloc (.cells #[.bool false, .int .i64 0, .int .i64 0, .int .i64 0] 32))).step hb); obtain ⟨n90, n91, n92, n93⟩ := N9.out.four; have n9f := N9.out.loose; have n9l := N9.out.lt; have N10 := Lib.hid ((has_drew (made10 wa 32 [.bool false, .int .i64 0, .int .i64 0, .int .i64 0] (.cells #[.int .i64 0, .int .i64 0, .slice none 0 0, .slice none 0 0] 27))).step hb); obtain ⟨n100, n101, n102, n103⟩ := N10.out.four; have n10f := N10.out.loose; have n10l := N10.out.lt; clear hb) | ((with_reducible have R5 := Lib.hid ((((R2.out.alloc (.cells #[.bool false, .int .i64 0, .int .i64 0, .int .i64 0] 32)).alloc (.cells #[.int .i64 0, .int .i64 0, .slice none 0 0, .slice none 0 0] 27)).drew).step hb)); have N10 := Lib.hid ((has_drew ((Has.made wa 32 [.bool false, .int .i64 0, .int .i64 0, .int .i64 0]).alloc (.cells #[.int .i64 0, .int .i64 0, .slice none 0 0, .slice none 0 0] 27))).step hb); obtain ⟨n100, n101, n102, n103⟩ := N10.out.four; have n10f := N10.out.loose; have n10l := N10.out.lt; have N9 := Lib.hid ((has_drew (made10 wa 27 [.int .i64 0, .int .i64 0, .slice none 0 0, .slice none 0 0] (.cells #[.bool false, .int .i64 0, .int .i64 0, .int .i64 0] 32))).step hb); obtain ⟨n90, n91, n92, n93⟩ := N9.out.four; have n9f := N9.out.loose; have n9l := N9.out.lt; clear hb)))
          all_goals (go_wp2_with fail; go_meet)
          all_goals first | (with_reducible exact got0 R5.out) | (with_reducible exact got1 R5.out) | (with_reducible exact got2 R5.out N9.out G2.out) | (with_reducible exact got3 R5.out N10.out G2.out) | (with_reducible exact got4 R5.out N9.out N10.out G2.out G3.out (ne1 _)) | (with_reducible exact got4 R5.out N9.out N10.out G3.out G2.out (ne2 _))
        case rest =>
        obtain ⟨g9, g10, rfl, rfl, hr, h9, h10, l9, l10⟩ := hcut
        clear KK R2
        obtain ⟨⟨j0, j1, j2, j3⟩, c0, c1, c2, c3⟩ := hr.cells
        obtain ⟨a0, a1, a2, a3⟩ := h9.four
        have cf := hr.c.loose
        have n9 : g9 ≠ g := by omega
        have n9' : g ≠ g9 := by omega
        have hz : RateAt W k l v b g T H ((((wc.setCell ⟨g, 0, none⟩ (.int .i64 T)).setCell ⟨g, 1, none⟩ (.int .i64 H)).setCell ⟨g, 2, none⟩ (.slice none 0 0)).setCell ⟨g, 3, none⟩ (.slice none 0 0)) := by
          have hl := hr.gl
          exact ⟨hr.p.set4 (by omega) _ _ _ _, has_put4 hr.c _ _ _ _, (((hr.be.setCell (p := ⟨g, 0, none⟩) (by show _ ≤ g; omega) _).setCell (p := ⟨g, 1, none⟩) (by show _ ≤ g; omega) _).setCell (p := ⟨g, 2, none⟩) (by show _ ≤ g; omega) _).setCell (p := ⟨g, 3, none⟩) (by show _ ≤ g; omega) _, hl⟩
        have hy' : Has ((((wc.setCell ⟨g, 0, none⟩ (.int .i64 T)).setCell ⟨g, 1, none⟩ (.int .i64 H)).setCell ⟨g, 2, none⟩ (.slice none 0 0)).setCell ⟨g, 3, none⟩ (.slice none 0 0)) g10 32 [.bool al, .int .i64 rm, .int .i64 rt, .int .i64 rs] := h10.set4 (by omega) _ _ _ _
        have HZ := Lib.hid hz
        have HY := Lib.hid hy'
        clear hz hy' hr h9 h10
        go_upto_region 16 with (fail)
        clear j0 j1 j2 j3 c0 c1 c2 c3
        clear a0 a1 a2 a3 cf n9 n9'
        generalize (((wc.setCell ⟨g, 0, none⟩ (.int .i64 T)).setCell ⟨g, 1, none⟩ (.int .i64 H)).setCell ⟨g, 2, none⟩ (.slice none 0 0)).setCell ⟨g, 3, none⟩ (.slice none 0 0) = wd at HZ HY ⊢
        obtain ⟨⟨j0, j1, j2, j3⟩, c0, c1, c2, c3⟩ := HZ.out.cells
        obtain ⟨u0, u1, u2, u3⟩ := HY.out.four
        have q2 := (HZ.out.be.cell (p := ⟨b1, o1 + j * 2 + 1, none⟩) hb1).trans X2.out
        have e3 : IntKind.i64.wrap (S + m) = S + m := wrap_i (by omega) (by omega)
        have d3 : decide (S + m ≤ l) = al := HA.out.symm
        go_quiet (fail)
        have hr := HZ.out.drewN nq
        have hy' : Has (wd.drewN nq) g10 32 [.bool al, .int .i64 rm, .int .i64 rt, .int .i64 rs] := HY.out
        clear q2 e3 d3 HZ HY u0 u1 u2 u3
        clear j0 j1 j2 j3 c0 c1 c2 c3
        generalize World.drewN wd nq = we at hr hy' ⊢
        have R6 := Lib.hid hr
        have H6 := Lib.hid hy'
        clear hr hy'
        obtain ⟨⟨j0, j1, j2, j3⟩, c0, c1, c2, c3⟩ := R6.out.cells
        obtain ⟨u0, u1, u2, u3⟩ := H6.out.four
        have q2 := (R6.out.be.cell (p := ⟨b1, o1 + j * 2 + 1, none⟩) hb1).trans X2.out
        go_upto_if 105 with (fail)
        go_cut [7] (fun s7 wx => s7 = .int .i64 H ∧ we = wx)
        case first =>
          cases al
          · have hq : ¬ S + m ≤ l := by have := HA.out; simpa using this
            have eh : H = S := by rw [HE.out, if_neg hq]
            have EH := Lib.hid eh
            clear eh
            go_wp2_with fail
            go_meet
            exact ⟨by rw [EH.out], rfl⟩
          · have hq : S + m ≤ l := by have := HA.out.symm; simpa using this
            have eh : H = S + m := by rw [HE.out, if_pos hq]
            have EH := Lib.hid eh
            clear eh
            go_wp2_with fail
            go_meet
            exact ⟨by rw [EH.out], rfl⟩
        case rest =>
        obtain ⟨rfl, rfl⟩ := hcut
        have e6 : IntKind.i64.wrap (l - H) = rm := by rw [← RM.out]; exact wrap_i (by omega) (by omega)
        have d6 : decide (l < H) = false := by simp; omega
        go_wp2_with fail
        go_roundw
        case rel => exact ⟨j + 1, T, H, by omega, by go_num, rfl, rfl, by have := ET.out; omega, by have := ET.out; omega, by omega, by omega, R6.out⟩
        case measure => simp [intOf]; omega
      · have WK := Lib.hid (fun u => rWeighs_no m u hm)
        clear hm
        go_wp2_with fail
        refine (WK.out _).mono ?_; rintro e w' ⟨rfl, rfl⟩
        go_wp2_with fail
        refine (live_any _).mono ?_; rintro e wl ⟨rfl, hb⟩
        have RL := Lib.hid (R1.out.step hb)
        clear hb
        go_wp2_with fail
        go_ret
        exact ⟨rfl, RL.out.be⟩
    · go_wp2_with fail
      refine (live_any _).mono ?_; rintro e wl ⟨rfl, hb⟩
      have RL := Lib.hid (R1.out.step hb)
      clear hb
      go_wp2_with fail
      go_ret
      exact ⟨rfl, RL.out.be⟩


set_option maxRecDepth 100000 in
theorem e0 (k l v b : Int) (A : Option Addr) (len cap : Nat) (W : World) (hL : 40 < len) (hM : len ≤ maxLen) :
    Calls Try.prog 6 #[.agg #[.int .i64 k, .int .i64 l, .int .i64 v, .int .i64 b], .slice A len cap] W fun e w' => e = .returned (.bool true) ∧ Below W.heap.size W w' := by
  unfold maxLen at hM
  have Q0 := Lib.hid ((Below.refl W.heap.size W).alloc (Nat.le_refl _) (.cells #[.int .i64 k, .int .i64 l, .int .i64 v, .int .i64 b] 23))
  go_enter Try.func6, Try.ntmps6
  go_wp2_with fail
  refine (live_any _).mono ?_; rintro e wl ⟨rfl, hb⟩
  have Q1 := Lib.hid (Q0.out.trans (hb.mono Q0.out.size))
  clear hb
  go_wp2_with fail
  go_ret
  exact ⟨rfl, Q1.out⟩
set_option maxRecDepth 100000 in
theorem e1 (k l v b : Int) (A : Option Addr) (len cap : Nat) (W : World) (hL : len ≤ 40) (hP : ¬ MayP k l v b) :
    Calls Try.prog 6 #[.agg #[.int .i64 k, .int .i64 l, .int .i64 v, .int .i64 b], .slice A len cap] W fun e w' => e = .returned (.bool true) ∧ Below W.heap.size W w' := by
  have CK := Lib.hid (fun u => rCheck_no k l v b u hP)
  have Q0 := Lib.hid ((Below.refl W.heap.size W).alloc (Nat.le_refl _) (.cells #[.int .i64 k, .int .i64 l, .int .i64 v, .int .i64 b] 23))
  clear hP
  go_enter Try.func6, Try.ntmps6
  go_wp2_with fail
  refine (CK.out _).mono ?_; rintro e w1 ⟨rfl, hb⟩
  have Q1 := Lib.hid (Q0.out.trans (hb.mono Q0.out.size))
  clear hb
  go_wp2_with fail
  refine (live_any _).mono ?_; rintro e wl ⟨rfl, hb⟩
  have Q2 := Lib.hid (Q1.out.trans (hb.mono Q1.out.size))
  clear hb
  go_wp2_with fail
  go_ret
  exact ⟨rfl, Q2.out⟩
set_option maxRecDepth 100000 in
theorem e2 (k l v b : Int) (A : Option Addr) (len cap : Nat) (W : World) (hL : len ≤ 40) (hP : MayP k l v b) (hk : ¬ k = 2) :
    Calls Try.prog 6 #[.agg #[.int .i64 k, .int .i64 l, .int .i64 v, .int .i64 b], .slice A len cap] W fun e w' => e = .returned (.bool true) ∧ Below W.heap.size W w' := by
  have CK := Lib.hid (fun u => rCheck_yes k l v b u hP)
  have tk : (k != 2) = true := by simp [hk]
  have Q0 := Lib.hid ((Below.refl W.heap.size W).alloc (Nat.le_refl _) (.cells #[.int .i64 k, .int .i64 l, .int .i64 v, .int .i64 b] 23))
  have P0 := Lib.hid (Has.made W 23 [.int .i64 k, .int .i64 l, .int .i64 v, .int .i64 b])
  clear hP hk
  go_enter Try.func6, Try.ntmps6
  go_wp2_with fail
  refine (CK.out _).mono ?_; rintro e w1 ⟨rfl, hb⟩
  have Q1 := Lib.hid (Q0.out.trans (hb.mono Q0.out.size))
  obtain ⟨j0, j1, j2, j3⟩ := (P0.out.step hb).four
  clear hb
  go_wp2_with fail
  refine (live_any _).mono ?_; rintro e wl ⟨rfl, hb⟩
  have Q2 := Lib.hid (Q1.out.trans (hb.mono Q1.out.size))
  clear hb
  go_wp2_with fail
  go_ret
  exact ⟨rfl, Q2.out⟩

theorem walk (k l v b : Int) (A : Option Addr) (len cap : Nat) (h0 : (Lit.int .i64 k).wf = true) (h1 : (Lit.int .i64 l).wf = true) (h2 : (Lit.int .i64 v).wf = true) (h3 : (Lit.int .i64 b).wf = true) {W : World} (hc : IsHits W A len cap) :
    Calls Try.prog 6 #[.agg #[.int .i64 k, .int .i64 l, .int .i64 v, .int .i64 b], .slice A len cap] W fun e w' => e = .returned (.bool true) ∧ Below W.heap.size W w' := by
  obtain ⟨f, h, hh⟩ := hc.at_
  by_cases hL : len ≤ 40
  · by_cases hP : MayP k l v b
    · by_cases hk : k = 2
      · exact main k l v b A len cap f h W hL hP hk hh
      · exact e2 k l v b A len cap W hL hP hk
    · exact e1 k l v b A len cap W hL hP
  · exact e0 k l v b A len cap W (by omega) (Nat.le_trans hc.1 hc.2.1)

theorem own : ownKnob Try.prog.godebug = none := by kernel_rfl
theorem laidOut : laidOutB Try.prog = true := by kernel_rfl
theorem contract (H : Type) (enc : TypeId × Value → H) (W : World) (base : Nat) (args : Array Value) (ds gs : List (DataW H)) (before : List MemPlace)
    (hval : ∀ (j : Nat) t v, Try.f6.params[j]? = some t → args[j]? = some v → Value.okWide Try.prog W .any base t v)
    (hW : DataW.Whole enc Try.prog Try.f6.params.toList Rows.fixedRateSpec.vars false W args.toList ds gs before) :
    Calls Try.prog 6 args W fun e W' => ∃ v, e = .returned v ∧ Rows.fixedRateSpec.post enc Try.prog Try.f6 false true false false W args v W' := by
  have hW' := hW
  obtain ⟨p, q, hA0, hV, rfl, hfz, hnd⟩ := hW
  have hA : DataW.TrodAll enc Try.prog W 0 (fun _ => true) true Try.f6.params.toList args.toList ds p := hA0
  rw [Try.params6] at hA hval
  obtain ⟨v0, vs0, d0, ds0, p0, q0, hargs, rfl, rfl, h0, r0⟩ := trodAll_cons hA
  obtain ⟨v1, vs1, d1, ds1, p1, q1, rfl, rfl, rfl, h1, r1⟩ := trodAll_cons r0
  obtain ⟨rfl, rfl, rfl⟩ := trodAll_nil r1
  obtain rfl : args = #[v0, v1] := by cases args; simp_all
  obtain ⟨rfl, rfl⟩ := trodVars_none hV
  have k0 := h0
  have lt0 : ∀ x ∈ p0, x.block < W.heap.size := by obtain ⟨m, hm⟩ := k0; exact DataW.trod_lt m _ _ _ hm
  obtain ⟨p0_k, p0_l, p0_v, p0_b, rfl, wp0_k, wp0_l, wp0_v, wp0_b⟩ := open_pol (hval 0 23 v0 rfl rfl) h0
  have k1 := h1
  have lt1 : ∀ x ∈ p1, x.block < W.heap.size := by obtain ⟨m, hm⟩ := k1; exact DataW.trod_lt m _ _ _ hm
  obtain ⟨a1, len1, cap1, rfl, w1⟩ := open_ops (hval 1 41 v1 rfl rfl) h1
  clear hA0
  refine (walk p0_k p0_l p0_v p0_b a1 len1 cap1 wp0_k wp0_l wp0_v wp0_b w1).mono fun e W' ⟨he, bel⟩ => ?_
  subst he
  exact ⟨_, rfl, _, _, _, [], _, [], hW', trodAll_mk1 (shut_bool Try.underlying4 _), (trodAll_cons_mk (Below.trod laidOut (by kernel_rfl) (of_decide_eq_true (by kernel_rfl)) k0 bel lt0) (trodAll_cons_mk (Below.trod laidOut (by kernel_rfl) (of_decide_eq_true (by kernel_rfl)) k1 bel lt1) trodAll_mk0)), rfl, bel.frame _, fun h => by cases h⟩

set_option maxRecDepth 100000 in
theorem lifted (os : Os) (started : os.Started) (H : Type) (enc : TypeId × Value → H) :
    ReturnsInHanded {} Try.checked os 6 .any (Rows.fixedRateSpec.pre6 enc Try.prog Try.f6 Rows.fixedRateRow.domain false) (Rows.fixedRateSpec.post enc Try.prog Try.f6 false true false false) := by
  refine returnsInHanded_of_change (C := Try.checked) own started (by kernel_rfl) Try.func6
    (ChangeSpec.witness6 (enc := enc) (C := Try.checked) false ⟨#[], #[.agg #[.int .i64 0, .int .i64 0, .int .i64 0, .int .i64 0], .slice none 0 0], []⟩ 8 (by kernel_rfl) (by kernel_rfl) (by kernel_rfl) (by kernel_rfl)) ?_
  intro W base args ds gs before hval hW _ _
  exact contract H enc W base args ds gs before hval hW

theorem over : Rows.fixedRateRow.holds Try.pinned (OpenSpec.ofChange Rows.fixedRateSpec) :=
  OpenClaim.holds_of_wide 6 Try.f6 rfl rfl rfl rfl rfl rfl rfl ⟨rfl, rfl, rfl, rfl, rfl⟩ rfl rfl rfl rfl rfl (by kernel_rfl) Try.func6 (by kernel_rfl)
    (of_decide_eq_true (by kernel_rfl)) (by unfold Func.isWrapper; first | (rw [if_pos (by decide +kernel)]; kernel_rfl) | (rw [if_neg (by decide +kernel)]; exact ⟨rfl, rfl⟩))
    (fun os started H enc _ => lifted os started H enc)
end Go.Proofs.Ytdmephlappmmdab.fixedRate
namespace Go.Proofs.Ytdmephlappmmdab
theorem fixedRate_proved : Rows.FixedRateSaid := fixedRate.over
end Go.Proofs.Ytdmephlappmmdab

