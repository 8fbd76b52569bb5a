/- Structures and arithmetic for the law ExactRate. WRITTEN BY gen_exRate.py. -/
import Derived.Test.YtgdcgilhaedbmaaRows
import Derived.Test.YtgdcgilhaedbmaaExLive
import Derived.Test.YtgdcgilhaedbmaaEx14
import Derived.Test.YtgdcgilhaedbmaaCel0
import Derived.Test.YtgdcgilhaedbmaaOwn1
import Derived.Deep.RegionHeld3
import Derived.Deep.DeepCutAuto
import Derived.BigQuiet
namespace Go.Proofs.Ytgdcgilhaedbmaa.exactRate
open Go.Joins Go.ChangeShapes Go.WideShapes Go.ChangeAt Go.RowKit Go.Deep
set_option linter.unusedVariables false

theorem cellsR : Try.prog.cellsOf 45 = 2 := by kernel_rfl
theorem open_rate {H : Type} {enc : TypeId × Value → H} {w : World} {base fuel : Nat} {held : Bool} {v : Value} {x : DataW H × List MemPlace}
    (hf : DataW.trod enc Try.prog w base (fun _ => true) held fuel 41 [v] = some x) : ∃ A len cap, v = .slice A len cap ∧ IsHits w A len cap := by
  rcases Deep.open_slice Try.underlying41 hf with ⟨hcs, _⟩ | ⟨x, l, c, m, n, D, Pl, hcs, _, hl, hm, hmm, _, hi⟩
  · simp at hcs
    exact ⟨_, _, _, hcs, Nat.le_refl _, Nat.zero_le _, fun h => absurd h (by omega)⟩
  · simp at hcs hmm
    subst hmm
    rw [cellsR] at hi
    refine ⟨_, _, _, hcs, hl, hm, fun h0 => ?_⟩
    obtain ⟨b, off, spot⟩ := x
    obtain ⟨cs0, hc0, _⟩ := hi 0 (by omega)
    obtain ⟨_, hl0, hat0⟩ := World.cells?_some hc0
    have hs0 := hat0 0 (by decide)
    rw [List.getElem?_eq_getElem (show 0 < cs0.length by omega)] at hs0
    have hspot : spot = none := by simpa [Addr.add] using World.cell?_spot hs0
    subst hspot
    have e2 : ∀ b off i, (⟨b, off, none⟩ : Addr).add i = ⟨b, off + i, none⟩ := fun b off i => by unfold Addr.add; split <;> simp_all
    have hlt : b < w.heap.size := by
      have := block_lt_of_cell hs0
      rw [e2, e2] at this
      exact this
    refine ⟨b, off, rfl, hlt, fun i hil => ?_⟩
    obtain ⟨cs, hc, htr⟩ := hi i (by omega)
    obtain ⟨_, hlc, hat⟩ := World.cells?_some hc
    match cs, hlc with
    | [v0, v1], _ =>
      obtain ⟨_, u0, y0, e0, t0⟩ := each_field Try.underlying45 (by kernel_rfl) rfl htr 0 _ rfl
      obtain ⟨_, u1, y1, e1, t1⟩ := each_field Try.underlying45 (by kernel_rfl) rfl htr 1 _ rfl
      simp at e0 e1
      subst e0 e1
      obtain ⟨z0, q0, _, _⟩ := DataW.trod_int Try.underlying3 t0
      obtain ⟨z1, q1, _, _⟩ := DataW.trod_int Try.underlying3 t1
      simp at q0 q1
      subst q0 q1
      have a0 := hat 0 (by decide)
      have a1 := hat 1 (by decide)
      simp only [e2] at a0 a1
      exact ⟨z0, z1, a0, a1⟩
theorem open_ops {H : Type} {enc : TypeId × Value → H} {w : World} {r : Reach} {b0 base : Nat} {held : Bool} {v : Value} {d : DataW H} {p : List MemPlace} (hv : Value.okWide Try.prog w r b0 41 v)
    (h : DataW.Trod enc Try.prog w base (fun _ => true) held 41 v d p) : ∃ A len cap, v = .slice A len cap ∧ IsHits w A len cap := by
  obtain ⟨a, len, cap, rfl⟩ := okWide_slice Try.underlying41 hv
  obtain ⟨fuel, hf⟩ := h
  exact open_rate (by simpa [Value.cells] using hf)


theorem infoI : (Try.prog.info? 3).map (fun i => (i.zero, i.size, i.bytes)) = some (some (.int .i64 0), 1, 8) := by kernel_rfl
/-- Numbers, as values. -/
def iv (zs : List Int) : List Value := zs.map (Value.int .i64)
theorem iv_len (zs : List Int) : (iv zs).length = zs.length := by simp [iv]
theorem iv_snoc (zs : List Int) (z : Int) : iv (zs ++ [z]) = iv zs ++ [.int .i64 z] := by simp [iv]
/-- A block that lies behind all that is known. -/
structure Fr (g : Nat) (vh vT vI : Value) (X : Nat) : Prop where
  g : g < X
  h : ∀ c, vh.ownBlock = some c → c < X
  t : ∀ c, vT.ownBlock = some c → c < X
  i : ∀ c, vI.ownBlock = some c → c < X
theorem Fr.next {g X : Nat} {vh vT vI : Value} (h : Fr g vh vT vI X) : Fr g vh vT vI (X + 1) := ⟨Nat.lt_succ_of_lt h.g, fun c hc => Nat.lt_succ_of_lt (h.h c hc), fun c hc => Nat.lt_succ_of_lt (h.t c hc), fun c hc => Nat.lt_succ_of_lt (h.i c hc)⟩
/-- A list of numbers and a row of hits lie in unlike blocks. -/
theorem own_ne {B B' : Nat} {w : World} {u vh : Value} {zs : List Value} {n : Nat} {f h : Nat → Int} (o : Own1 B 3 w u zs) (r : OwnH B' w vh n f h) (c : Nat) (hc : u.ownBlock = some c) : vh.ownBlock ≠ some c := by
  intro e
  obtain ⟨_, cs, hh⟩ := own_ge o.1 hc
  obtain ⟨h1, ⟨rfl, _⟩ | ⟨gb, cap, cur, rfl, hb, h2, h3⟩⟩ := r
  · simp [Value.ownBlock] at e
  · have e' : gb = c := by simpa [Value.ownBlock] using e
    subst e'
    rw [h2] at hh
    injection hh with hh
    injection hh with _ h5
    exact absurd h5 (by decide)
/-- The policy, the cell as it stands with its row of hits, and the two lists. -/
structure RateAt (w0 : World) (k l v b : Int) (g B : Nat) (t : Int) (vh : Value) (hn : Nat) (f h : Nat → Int) (vT vI : Value) (ts xs : List Int) (w : World) : Prop where
  p : Has w w0.heap.size 23 [.int .i64 k, .int .i64 l, .int .i64 v, .int .i64 b]
  c : Has w g 27 [.int .i64 t, .int .i64 0, .slice none 0 0, vh]
  be : Below w0.heap.size w0 w
  gl : w0.heap.size < g
  oT : Own1 B 3 w vT (iv ts)
  oI : Own1 B 3 w vI (iv xs)
  ne : ∀ c, vT.ownBlock = some c → vI.ownBlock ≠ some c
  gB : g < B
  s : OwnH 0 w vh hn f h
theorem below_N {B : Nat} {w w' : World} (h : Below B w w') (m : Nat) : Below B w (w'.drewN m) := ⟨h.os, h.tape, h.output, h.size, h.block⟩
theorem set4_kept (w : World) (X : Nat) (x0 x1 x2 x3 : Value) : Kept (fun c => c = X) w ((((w.setCell ⟨X, 0, none⟩ x0).setCell ⟨X, 1, none⟩ x1).setCell ⟨X, 2, none⟩ x2).setCell ⟨X, 3, none⟩ x3) :=
  ((((Kept.refl (fun c => c = X) w).setCell (p := ⟨X, 0, none⟩) (.inl rfl) x0).setCell (p := ⟨X, 1, none⟩) (.inl rfl) x1).setCell (p := ⟨X, 2, none⟩) (.inl rfl) x2).setCell (p := ⟨X, 3, none⟩) (.inl rfl) x3
theorem has_put4 {w : World} {g : Nat} {ty : TypeId} {a b c d : Value} (h : Has w g ty [a, b, c, d]) (x0 x1 x2 x3 : Value) : Has ((((w.setCell ⟨g, 0, none⟩ x0).setCell ⟨g, 1, none⟩ x1).setCell ⟨g, 2, none⟩ x2).setCell ⟨g, 3, none⟩ x3) g ty [x0, x1, x2, x3] := by
  have h4 := (((h.store 0 x0).store 1 x1).store 2 x2).store 3 x3
  simpa using h4
theorem has_kept {F : Nat → Prop} {w w' : World} {g : Nat} {t : TypeId} {l : List Value} (h : Has w g t l) (hk : Kept F w w') (hF : ¬ F g) : Has w' g t l := by
  have := hk.block g h.lt hF
  unfold Has at *
  rw [this]; exact h
theorem has_set4 {w : World} {g B : Nat} {t : TypeId} {l : List Value} (h : Has w g t l) (hB : g ≠ B) (x0 x1 x2 x3 : Value) : Has ((((w.setCell ⟨B, 0, none⟩ x0).setCell ⟨B, 1, none⟩ x1).setCell ⟨B, 2, none⟩ x2).setCell ⟨B, 3, none⟩ x3) g t l := has_kept h (set4_kept w B x0 x1 x2 x3) hB
theorem made10 (w : World) (t : TypeId) (ls : List Value) (o : Obj) : Has ((w.alloc o).alloc (.cells ls.toArray t)) (w.heap.size + 1) t ls := by
  have := Has.made (w.alloc o) t ls
  simpa using this
section
variable {w0 w w' : World} {k l v b t : Int} {vh : Value} {hn : Nat} {f h : Nat → Int} {g B : Nat} {vT vI : Value} {ts xs : List Int}
theorem RateAt.kept {F : Nat → Prop} (q : RateAt w0 k l v b g B t vh hn f h vT vI ts xs w) (hk : Kept F w w') (h1 : ¬ F w0.heap.size) (h2 : ¬ F g) (h0 : ∀ c, c < w0.heap.size → ¬ F c) (hT : ∀ c, vT.ownBlock = some c → ¬ F c) (hI : ∀ c, vI.ownBlock = some c → ¬ F c) (hS : ∀ c, vh.ownBlock = some c → ¬ F c) : RateAt w0 k l v b g B t vh hn f h vT vI ts xs w' :=
  ⟨has_kept q.p hk h1, has_kept q.c hk h2, q.be.trans (hk.below q.be.size h0), q.gl, q.oT.kept hk hT, q.oI.kept hk hI, q.ne, q.gB, q.s.kept hk hS⟩
theorem RateAt.step (q : RateAt w0 k l v b g B t vh hn f h vT vI ts xs w) (hb : Below w.heap.size w w') : RateAt w0 k l v b g B t vh hn f h vT vI ts xs w' := q.kept (Kept.of_below (F := fun _ => False) hb) id id (fun _ _ => id) (fun _ _ => id) (fun _ _ => id) (fun _ _ => id)
theorem RateAt.drewN (q : RateAt w0 k l v b g B t vh hn f h vT vI ts xs w) (m : Nat) : RateAt w0 k l v b g B t vh hn f h vT vI ts xs (w.drewN m) := q.step (below_N (Below.refl _ _) m)
theorem RateAt.drew (q : RateAt w0 k l v b g B t vh hn f h vT vI ts xs w) : RateAt w0 k l v b g B t vh hn f h vT vI ts xs w.drew := q.step (Below.refl _ _).drew
theorem RateAt.alloc (q : RateAt w0 k l v b g B t vh hn f h vT vI ts xs w) (o : Obj) : RateAt w0 k l v b g B t vh hn f h vT vI ts xs (w.alloc o) := q.step ((Below.refl _ _).alloc (Nat.le_refl _) o)
theorem RateAt.cells (q : RateAt w0 k l v b g B t vh hn f h vT vI ts xs w) : (w.cell? ⟨w0.heap.size, 0, none⟩ = some (.int .i64 k) ∧ w.cell? ⟨w0.heap.size, 1, none⟩ = some (.int .i64 l) ∧ w.cell? ⟨w0.heap.size, 2, none⟩ = some (.int .i64 v) ∧ w.cell? ⟨w0.heap.size, 3, none⟩ = some (.int .i64 b)) ∧ w.cell? ⟨g, 0, none⟩ = some (.int .i64 t) ∧ w.cell? ⟨g, 1, none⟩ = some (.int .i64 0) ∧ w.cell? ⟨g, 2, none⟩ = some (.slice none 0 0) ∧ w.cell? ⟨g, 3, none⟩ = some vh := ⟨q.p.four, q.c.four⟩
theorem RateAt.set4 (q : RateAt w0 k l v b g B t vh hn f h vT vI ts xs w) {X : Nat} (hX : Fr g vh vT vI X) (x0 x1 x2 x3 : Value) : RateAt w0 k l v b g B t vh hn f h vT vI ts xs ((((w.setCell ⟨X, 0, none⟩ x0).setCell ⟨X, 1, none⟩ x1).setCell ⟨X, 2, none⟩ x2).setCell ⟨X, 3, none⟩ x3) := by
  have hl := q.gl
  have hg := hX.g
  exact q.kept (set4_kept w X x0 x1 x2 x3) (by omega) (by omega) (fun c hc => by omega) (fun c hc => by have := hX.t c hc; omega) (fun c hc => by have := hX.i c hc; omega) (fun c hc => by have := hX.h c hc; omega)
theorem RateAt.fr (q : RateAt w0 k l v b g B t vh hn f h vT vI ts xs w) : Fr g vh vT vI w.heap.size := ⟨q.c.lt, fun c hc => (q.s.lt hc).1, fun c hc => q.oT.lt hc, fun c hc => q.oI.lt hc⟩
theorem ownH_set4 {B' n X : Nat} {u : Value} {F G : Nat → Int} (s : OwnH B' w u n F G) (hX : ∀ c, u.ownBlock = some c → c ≠ X) (x0 x1 x2 x3 : Value) : OwnH B' ((((w.setCell ⟨X, 0, none⟩ x0).setCell ⟨X, 1, none⟩ x1).setCell ⟨X, 2, none⟩ x2).setCell ⟨X, 3, none⟩ x3) u n F G := s.kept (set4_kept w X x0 x1 x2 x3) (fun c hc => hX c hc)
/-- The cell is laid anew. -/
theorem RateAt.upd (q : RateAt w0 k l v b g B t vh hn f h vT vI ts xs w) {T : Int} {vv : Value} {n : Nat} {F G : Nat → Int} (hs : OwnH 0 w vv n F G) : RateAt w0 k l v b g B T vv n F G vT vI ts xs ((((w.setCell ⟨g, 0, none⟩ (.int .i64 T)).setCell ⟨g, 1, none⟩ (.int .i64 0)).setCell ⟨g, 2, none⟩ (.slice none 0 0)).setCell ⟨g, 3, none⟩ (vv)) := by
  have hl := q.gl
  have hB := q.gB
  have hk := set4_kept w g (.int .i64 T) (.int .i64 0) (.slice none 0 0) (vv)
  exact ⟨has_kept q.p hk (by omega), has_put4 q.c _ _ _ _, q.be.trans (hk.below q.be.size (fun c hc => by omega)), hl, q.oT.kept hk (fun c hc => by have := q.oT.ge hc; omega), q.oI.kept hk (fun c hc => by have := q.oI.ge hc; omega), q.ne, hB, ownH_set4 hs (hs.ne q.c (by decide)) _ _ _ _⟩
theorem RateAt.appT (q : RateAt w0 k l v b g B t vh hn f h vT vI ts xs w) {z : Int} {vT' : Value} {g7 : Nat} (e7 : vT'.ownBlock = some g7) (ho : Own1 B 3 w' vT' (iv ts ++ [.int .i64 z])) (hk : Kept (fun c => vT.ownBlock = some c) w w') (hg : vT.ownBlock = some g7 ∨ w.heap.size ≤ g7) : RateAt w0 k l v b g B t vh hn f h vT' vI (ts ++ [z]) xs w' := by
  have hl := q.gl
  have hB := q.gB
  have hge : ∀ c, vT.ownBlock = some c → B ≤ c := fun c hc => q.oT.ge hc
  refine ⟨has_kept q.p hk (fun e => by have := hge _ e; omega), has_kept q.c hk (fun e => by have := hge _ e; omega), q.be.trans (hk.below q.be.size (fun c hc e => by have := hge _ e; omega)), hl, by rw [iv_snoc]; exact ho, q.oI.kept hk (fun c hc e => q.ne c e hc), ?_, hB, q.s.kept hk (fun c hc e => own_ne q.oT q.s c e hc)⟩
  intro c hc hi
  rw [e7] at hc
  cases hc
  rcases hg with hg | hg
  · exact q.ne g7 hg hi
  · have := q.oI.lt hi; omega
theorem RateAt.appI (q : RateAt w0 k l v b g B t vh hn f h vT vI ts xs w) {z : Int} {vI' : Value} {g7 : Nat} (e7 : vI'.ownBlock = some g7) (ho : Own1 B 3 w' vI' (iv xs ++ [.int .i64 z])) (hk : Kept (fun c => vI.ownBlock = some c) w w') (hg : vI.ownBlock = some g7 ∨ w.heap.size ≤ g7) : RateAt w0 k l v b g B t vh hn f h vT vI' ts (xs ++ [z]) w' := by
  have hl := q.gl
  have hB := q.gB
  have hge : ∀ c, vI.ownBlock = some c → B ≤ c := fun c hc => q.oI.ge hc
  refine ⟨has_kept q.p hk (fun e => by have := hge _ e; omega), has_kept q.c hk (fun e => by have := hge _ e; omega), q.be.trans (hk.below q.be.size (fun c hc e => by have := hge _ e; omega)), hl, q.oT.kept hk (fun c hc e => q.ne c hc e), by rw [iv_snoc]; exact ho, ?_, hB, q.s.kept hk (fun c hc e => own_ne q.oI q.s c e hc)⟩
  intro c hc hi
  rw [e7] at hi
  cases hi
  rcases hg with hg | hg
  · exact q.ne g7 hc hg
  · have := q.oT.lt hc; omega
end
/-- What an ask told, wherever it lies. -/
def Got (w0 : World) (k l v b : Int) (g B : Nat) (t : Int) (vh : Value) (hn : Nat) (f h : Nat → Int) (vT vI : Value) (ts xs : List Int) (T : Int) (n : Nat) (F G : Nat → Int) (al : Bool) (rm rt rs : Int) (s9 s10 : Value) (w : World) : Prop :=
  ∃ (g9 g10 : Nat) (vv : Value), s9 = .pointer (some ⟨g9, 0, none⟩) ∧ s10 = .pointer (some ⟨g10, 0, none⟩) ∧ RateAt w0 k l v b g B t vh hn f h vT vI ts xs w ∧ Has w g9 27 [.int .i64 T, .int .i64 0, .slice none 0 0, vv] ∧ Has w g10 32 [.bool al, .int .i64 rm, .int .i64 rt, .int .i64 rs] ∧ Fr g vh vT vI g9 ∧ Fr g vh vT vI g10 ∧ OwnH 0 w vv n F G

section
variable {w0 w5 : World} {k l v b t : Int} {vh : Value} {hn : Nat} {f h : Nat → Int} {g B : Nat} {vT vI : Value} {ts xs : List Int} {T : Int} {n : Nat} {vv : Value} {F G : Nat → Int} {al : Bool} {rm rt rs : Int}
theorem ownH_alloc {w : World} {B' n : Nat} {u : Value} {F G : Nat → Int} (s : OwnH B' w u n F G) (o : Obj) : OwnH B' (w.alloc o) u n F G := s.below ((Below.refl _ _).alloc (Nat.le_refl _) _)
theorem got0 (R : RateAt w0 k l v b g B t vh hn f h vT vI ts xs w5) (S5 : OwnH 0 w5 vv n F G) : Got w0 k l v b g B t vh hn f h vT vI ts xs T n F G al rm rt rs (.pointer (some ⟨w5.heap.size, 0, none⟩)) (.pointer (some ⟨w5.heap.size + 1, 0, none⟩)) ((w5.alloc (.cells #[.int .i64 T, .int .i64 0, .slice none 0 0, vv] 27)).alloc (.cells #[.bool al, .int .i64 rm, .int .i64 rt, .int .i64 rs] 32)) :=
  ⟨_, _, vv, rfl, rfl, (R.alloc _).alloc _, made1 w5 27 [.int .i64 T, .int .i64 0, .slice none 0 0, vv] _, made10 w5 32 [.bool al, .int .i64 rm, .int .i64 rt, .int .i64 rs] _, R.fr, R.fr.next, ownH_alloc (ownH_alloc S5 _) _⟩
theorem got1 (R : RateAt w0 k l v b g B t vh hn f h vT vI ts xs w5) (S5 : OwnH 0 w5 vv n F G) : Got w0 k l v b g B t vh hn f h vT vI ts xs T n F G al rm rt rs (.pointer (some ⟨w5.heap.size + 1, 0, none⟩)) (.pointer (some ⟨w5.heap.size, 0, none⟩)) ((w5.alloc (.cells #[.bool al, .int .i64 rm, .int .i64 rt, .int .i64 rs] 32)).alloc (.cells #[.int .i64 T, .int .i64 0, .slice none 0 0, vv] 27)) :=
  ⟨_, _, vv, rfl, rfl, (R.alloc _).alloc _, made10 w5 27 [.int .i64 T, .int .i64 0, .slice none 0 0, vv] _, made1 w5 32 [.bool al, .int .i64 rm, .int .i64 rt, .int .i64 rs] _, R.fr.next, R.fr, ownH_alloc (ownH_alloc S5 _) _⟩
theorem set4_size (w : World) (B : Nat) (x0 x1 x2 x3 : Value) : ((((w.setCell ⟨B, 0, none⟩ x0).setCell ⟨B, 1, none⟩ x1).setCell ⟨B, 2, none⟩ x2).setCell ⟨B, 3, none⟩ x3).heap.size = w.heap.size := by simp [World.setCell]
theorem madeS (w : World) (B : Nat) (x0 x1 x2 x3 : Value) (ty : TypeId) (ls : List Value) : Has (((((w.setCell ⟨B, 0, none⟩ x0).setCell ⟨B, 1, none⟩ x1).setCell ⟨B, 2, none⟩ x2).setCell ⟨B, 3, none⟩ x3).alloc (.cells ls.toArray ty)) w.heap.size ty ls := by
  have := Has.made ((((w.setCell ⟨B, 0, none⟩ x0).setCell ⟨B, 1, none⟩ x1).setCell ⟨B, 2, none⟩ x2).setCell ⟨B, 3, none⟩ x3) ty ls
  rwa [set4_size] at this
theorem got2 (R : RateAt w0 k l v b g B t vh hn f h vT vI ts xs w5) (S5 : OwnH 0 w5 vv n F G) {X : Nat} {a b' c d : Value} (N : Has w5 X 27 [a, b', c, d]) (hB : Fr g vh vT vI X) : Got w0 k l v b g B t vh hn f h vT vI ts xs T n F G al rm rt rs (.pointer (some ⟨X, 0, none⟩)) (.pointer (some ⟨w5.heap.size, 0, none⟩)) (((((w5.setCell ⟨X, 0, none⟩ (.int .i64 T)).setCell ⟨X, 1, none⟩ (.int .i64 0)).setCell ⟨X, 2, none⟩ (.slice none 0 0)).setCell ⟨X, 3, none⟩ (vv)).alloc (.cells #[.bool al, .int .i64 rm, .int .i64 rt, .int .i64 rs] 32)) :=
  ⟨_, _, vv, rfl, rfl, (R.set4 hB _ _ _ _).alloc _, (has_put4 N _ _ _ _).alloc _, madeS w5 X _ _ _ _ 32 [.bool al, .int .i64 rm, .int .i64 rt, .int .i64 rs], hB, R.fr, ownH_alloc (ownH_set4 S5 (S5.ne N (by decide)) _ _ _ _) _⟩
theorem got3 (R : RateAt w0 k l v b g B t vh hn f h vT vI ts xs w5) (S5 : OwnH 0 w5 vv n F G) {X : Nat} {a b' c d : Value} (N : Has w5 X 32 [a, b', c, d]) (hB : Fr g vh vT vI X) : Got w0 k l v b g B t vh hn f h vT vI ts xs T n F G al rm rt rs (.pointer (some ⟨w5.heap.size, 0, none⟩)) (.pointer (some ⟨X, 0, none⟩)) (((((w5.setCell ⟨X, 0, none⟩ (.bool al)).setCell ⟨X, 1, none⟩ (.int .i64 rm)).setCell ⟨X, 2, none⟩ (.int .i64 rt)).setCell ⟨X, 3, none⟩ (.int .i64 rs)).alloc (.cells #[.int .i64 T, .int .i64 0, .slice none 0 0, vv] 27)) :=
  ⟨_, _, vv, rfl, rfl, (R.set4 hB _ _ _ _).alloc _, madeS w5 X _ _ _ _ 27 [.int .i64 T, .int .i64 0, .slice none 0 0, vv], (has_put4 N _ _ _ _).alloc _, R.fr, hB, ownH_alloc (ownH_set4 S5 (S5.ne N (by decide)) _ _ _ _) _⟩
theorem got4 (R : RateAt w0 k l v b g B t vh hn f h vT vI ts xs w5) (S5 : OwnH 0 w5 vv n F G) {X X' : Nat} {a b' c d a2 b2 c2 d2 : Value} (N : Has w5 X 27 [a, b', c, d]) (N' : Has w5 X' 32 [a2, b2, c2, d2]) (hB : Fr g vh vT vI X) (hB' : Fr g vh vT vI X') (hne : X ≠ X') : Got w0 k l v b g B t vh hn f h vT vI ts xs T n F G al rm rt rs (.pointer (some ⟨X, 0, none⟩)) (.pointer (some ⟨X', 0, none⟩)) ((((((((w5.setCell ⟨X, 0, none⟩ (.int .i64 T)).setCell ⟨X, 1, none⟩ (.int .i64 0)).setCell ⟨X, 2, none⟩ (.slice none 0 0)).setCell ⟨X, 3, none⟩ (vv)).setCell ⟨X', 0, none⟩ (.bool al)).setCell ⟨X', 1, none⟩ (.int .i64 rm)).setCell ⟨X', 2, none⟩ (.int .i64 rt)).setCell ⟨X', 3, none⟩ (.int .i64 rs)) :=
  ⟨_, _, vv, rfl, rfl, (R.set4 hB _ _ _ _).set4 hB' _ _ _ _, has_set4 (has_put4 N _ _ _ _) hne _ _ _ _, has_put4 (has_set4 N' (Ne.symm hne) _ _ _ _) _ _ _ _, hB, hB', ownH_set4 (ownH_set4 S5 (S5.ne N (by decide)) _ _ _ _) (S5.ne N' (by decide)) _ _ _ _⟩
theorem ne1 (n : Nat) : n ≠ n + 1 := by omega
theorem ne2 (n : Nat) : n + 1 ≠ n := by omega
end
/-- What the region of an ask reads. -/
abbrev Rd (W : World) (k l v b : Int) (g : Nat) (t : Int) (vh : Value) (b1 o : Nat) (m : Int) (w' : World) : Prop := ((w'.cell? ⟨W.heap.size, 0, none⟩ = some (.int .i64 k) ∧ w'.cell? ⟨W.heap.size, 1, none⟩ = some (.int .i64 l) ∧ w'.cell? ⟨W.heap.size, 2, none⟩ = some (.int .i64 v) ∧ w'.cell? ⟨W.heap.size, 3, none⟩ = some (.int .i64 b)) ∧ w'.cell? ⟨g, 0, none⟩ = some (.int .i64 t) ∧ w'.cell? ⟨g, 1, none⟩ = some (.int .i64 0) ∧ w'.cell? ⟨g, 2, none⟩ = some (.slice none 0 0) ∧ w'.cell? ⟨g, 3, none⟩ = some vh) ∧ w'.cell? ⟨b1, o, none⟩ = some (.int .i64 m)
theorem RateAt.rd {W w : World} {k l v b t m : Int} {vh : Value} {hn : Nat} {f h : Nat → Int} {g B b1 o : Nat} {vT vI : Value} {ts xs : List Int} (q : RateAt W k l v b g B t vh hn f h vT vI ts xs w) (hb1 : b1 < W.heap.size) (hm : W.cell? ⟨b1, o, none⟩ = some (.int .i64 m)) : Rd W k l v b g t vh b1 o m w := ⟨q.cells, (q.be.cell (p := ⟨b1, o, none⟩) hb1).trans hm⟩

/-- What the law adds up of asks 0 to q. -/
def sumC (p : Nat → Bool) (xs : List Int) : Nat → Int
  | 0 => 0
  | q + 1 => sumC p xs q + if p q = true then xs.getD q 0 else 0
/-- Which asks still count at a time. -/
def inL (v T : Int) (ts : List Int) (q : Nat) : Bool := decide (T - v < ts.getD q 0)
theorem getD_snoc_lt {zs : List Int} {z : Int} {q : Nat} (h : q < zs.length) : (zs ++ [z]).getD q 0 = zs.getD q 0 := by
  rw [List.getD_eq_getElem?_getD, List.getD_eq_getElem?_getD, List.getElem?_append_left h]
theorem getD_snoc_eq (zs : List Int) (z : Int) : (zs ++ [z]).getD zs.length 0 = z := by
  rw [List.getD_eq_getElem?_getD, List.getElem?_append_right (Nat.le_refl _)]; simp
theorem getD_bx {xs : List Int} (h : ∀ x ∈ xs, 0 ≤ x ∧ x ≤ 1048576) {r : Nat} (hr : r < xs.length) : 0 ≤ xs.getD r 0 ∧ xs.getD r 0 ≤ 1048576 := by
  rw [List.getD_eq_getElem?_getD, List.getElem?_eq_getElem hr, Option.getD_some]; exact h _ (List.getElem_mem hr)
theorem sumC_bd {p : Nat → Bool} {xs : List Int} (h : ∀ x ∈ xs, 0 ≤ x ∧ x ≤ 1048576) (q : Nat) (hq : q ≤ xs.length) : 0 ≤ sumC p xs q ∧ sumC p xs q ≤ q * 1048576 := by
  induction q with
  | zero => simp [sumC]
  | succ q ih =>
    have h1 := ih (by omega)
    have h2 := getD_bx h (show q < xs.length by omega)
    simp only [sumC]
    split <;> omega
theorem sumC_snoc (v X : Int) (ts xs : List Int) (T x : Int) (j : Nat) (hl : ts.length = j) (hx : xs.length = j) : sumC (inL v X (ts ++ [T])) (xs ++ [x]) (j + 1) = sumC (inL v X ts) xs j + if X - v < T then x else 0 := by
  have key : ∀ q, q ≤ j → sumC (inL v X (ts ++ [T])) (xs ++ [x]) q = sumC (inL v X ts) xs q := by
    intro q
    induction q with
    | zero => intro _; rfl
    | succ q ih =>
      intro hq
      simp only [sumC]
      have e : inL v X (ts ++ [T]) q = inL v X ts q := by unfold inL; rw [getD_snoc_lt (by omega)]
      rw [ih (by omega), e, getD_snoc_lt (by omega)]
  simp only [sumC]
  rw [key j (Nat.le_refl _)]
  have e1 : inL v X (ts ++ [T]) j = decide (X - v < T) := by unfold inL; rw [← hl, getD_snoc_eq]
  have e2 : (xs ++ [x]).getD j 0 = x := by rw [← hx]; exact getD_snoc_eq _ _
  rw [e1, e2]
  by_cases c : X - v < T
  · rw [if_pos (decide_eq_true c), if_pos c]
  · rw [if_neg (by simp [c]), if_neg c]
theorem sumF_add (p : Nat → Int) (J : Nat) : ∀ r, sumF p (J + r) = sumF p J + sumF (sh J p) r := by
  intro r
  induction r with
  | zero => simp [sumF]
  | succ r ih => rw [show J + (r + 1) = J + r + 1 from rfl]; simp only [sumF]; rw [ih]; unfold sh; omega
/-- The hits that are gone at T count at no later time. -/
theorem cnt_late {l v a T X : Int} {n : Nat} {f g : Nat → Int} (h : MayHits l v a n f g) (hX : T ≤ X) : cntE v (sh (firstE v T f 0 n) f) (sh (firstE v T f 0 n) g) (n - firstE v T f 0 n) X = cntE v f g n X := by
  have hl := first_le v T f n
  have hi := fun i hi => first_iff (T := T) h i hi
  generalize firstE v T f 0 n = J at *
  have h2 := sumF_add (fun i => if X - v < f i then g i else 0) J (n - J)
  rw [show J + (n - J) = n by omega] at h2
  have h3 : sumF (fun i => if X - v < f i then g i else 0) J = 0 := by
    have : ∀ q, q ≤ J → sumF (fun i => if X - v < f i then g i else 0) q = 0 := by
      intro q
      induction q with
      | zero => intro _; rfl
      | succ q ih => intro hq; simp only [sumF]; rw [ih (by omega), if_neg (fun c => by have := (hi q (by omega)).1 (by omega); omega)]; rfl
    exact this J (Nat.le_refl _)
  unfold cntE
  rw [h2, h3, Int.zero_add]
  exact sumF_congr (fun i _ => rfl)
theorem cnt_F {l v a t m X : Int} {n : Nat} {f g : Nat → Int} (h : MayHits l v a n f g) (hX : tmax t a ≤ X) :
    cntE v (eF l v a t m n f g) (eG l v a t m n f g) (eN l v a t m n f g) X = cntE v f g n X + if eAl l v a t m n f g = true ∧ X - v < tmax t a then m else 0 := by
  have h0 : cntE v (eF0 v a t n f) (eG0 v a t n f g) (eL v a t n f) X = cntE v f g n X := cnt_late h hX
  rw [← h0]
  unfold eF eG eN
  by_cases e : eAl l v a t m n f g = true
  · rw [if_pos e, if_pos e, if_pos e]
    by_cases q : eSame v a t n f = true
    · rw [if_pos q, if_pos q, if_pos q]
      obtain ⟨q1, q2⟩ := same_iff.1 q
      generalize eF0 v a t n f = F0 at *
      generalize eG0 v a t n f g = G0 at *
      obtain ⟨r, hr⟩ : ∃ r, eL v a t n f = r + 1 := ⟨eL v a t n f - 1, by omega⟩
      rw [hr] at q2 ⊢
      rw [show r + 1 - 1 = r from rfl] at *
      unfold cntE
      simp only [sumF]
      rw [sumF_congr (f := fun i => if X - v < F0 i then putF G0 r (G0 r + m) i else 0) (g := fun i => if X - v < F0 i then G0 i else 0) (fun i hi => by show (if X - v < F0 i then putF G0 r (G0 r + m) i else 0) = if X - v < F0 i then G0 i else 0; unfold putF; rw [if_neg (show ¬ i = r by omega)])]
      rw [q2]
      by_cases c : X - v < tmax t a
      · rw [if_pos c, if_pos c, if_pos ⟨e, c⟩]; unfold putF; rw [if_pos rfl]; omega
      · rw [if_neg c, if_neg c, if_neg (fun d => c d.2)]; omega
    · rw [if_neg q, if_neg q, if_neg q]
      unfold cntE
      simp only [sumF]
      rw [sumF_congr (f := fun i => if X - v < putF (eF0 v a t n f) (eL v a t n f) (tmax t a) i then putF (eG0 v a t n f g) (eL v a t n f) m i else 0) (g := fun i => if X - v < eF0 v a t n f i then eG0 v a t n f g i else 0) (fun i hi => by show (if X - v < putF (eF0 v a t n f) (eL v a t n f) (tmax t a) i then putF (eG0 v a t n f g) (eL v a t n f) m i else 0) = if X - v < eF0 v a t n f i then eG0 v a t n f g i else 0; unfold putF; rw [if_neg (show ¬ i = eL v a t n f by omega), if_neg (show ¬ i = eL v a t n f by omega)])]
      congr 1
      unfold putF
      rw [if_pos rfl, if_pos rfl]
      by_cases c : X - v < tmax t a
      · rw [if_pos c, if_pos ⟨e, c⟩]
      · rw [if_neg c, if_neg (fun d => c d.2)]
  · rw [if_neg e, if_neg e, if_neg e, if_neg (fun d => e d.1), Int.add_zero]
/-- What was let in is what the log counts. -/
structure Inv (l v t : Int) (n : Nat) (f h : Nat → Int) (ts xs : List Int) (j : Nat) : Prop where
  lt : ts.length = j
  lx : xs.length = j
  bx : ∀ x ∈ xs, 0 ≤ x ∧ x ≤ 1048576
  bt : ∀ q, q < j → 0 ≤ ts.getD q 0 ∧ ts.getD q 0 ≤ t
  may : MayHits l v t n f h
  le : ∀ X, t ≤ X → cntE v f h n X = sumC (inL v X ts) xs j
theorem Inv.next {l v t T m : Int} {n : Nat} {f h : Nat → Int} {ts xs : List Int} {j : Nat} (q : Inv l v t n f h ts xs j) (ht0 : 0 ≤ t) (ht : t ≤ T) (m1 : 1 ≤ m) (m2 : m ≤ 1048576) (v1 : 1 ≤ v) :
    Inv l v T (eN l v t T m n f h) (eF l v t T m n f h) (eG l v t T m n f h) (ts ++ [T]) (xs ++ [if eAl l v t T m n f h = true then m else 0]) (j + 1) := by
  have eT : tmax T t = T := tmax_hi ht
  refine ⟨by simp [q.lt], by simp [q.lx], ?_, ?_, ?_, ?_⟩
  · intro x hx
    rcases List.mem_append.1 hx with hx | hx
    · exact q.bx x hx
    · rw [List.mem_singleton.1 hx]; split <;> omega
  · intro r hr
    by_cases e : r < j
    · rw [getD_snoc_lt (by rw [q.lt]; exact e)]
      have := q.bt r e
      omega
    · have : r = ts.length := by rw [q.lt]; omega
      subst this
      rw [getD_snoc_eq]; omega
  · have := may_F (t := T) (m := m) q.may m1 ht0 v1
    rw [eT] at this
    exact this
  · intro X hX
    have := cnt_F (t := T) (m := m) q.may (X := X) (by rw [eT]; exact hX)
    rw [eT] at this
    rw [this, sumC_snoc _ _ _ _ _ _ _ q.lt q.lx, q.le X (by omega)]
    congr 1
    by_cases c : X - v < T
    · rw [if_pos c]
      by_cases e : eAl l v t T m n f h = true
      · rw [if_pos ⟨e, c⟩, if_pos e]
      · rw [if_neg (fun d => e d.1), if_neg e]
    · rw [if_neg c, if_neg (fun d => c d.2)]
/-- What the law asks of an ask. -/
theorem asked {l v t T m : Int} {n : Nat} {f h : Nat → Int} {ts xs : List Int} {j : Nat} (q : Inv l v t n f h ts xs j) (ht : t ≤ T) (l1 : 0 ≤ l) :
    0 ≤ sumC (inL v T ts) xs j ∧ sumC (inL v T ts) xs j ≤ l ∧ (eAl l v t T m n f h = true → sumC (inL v T ts) xs j + m ≤ l ∧ eRm l v t T m n f h = l - (sumC (inL v T ts) xs j + m)) ∧ (eAl l v t T m n f h = false → l < sumC (inL v T ts) xs j + m ∧ eRm l v t T m n f h = l - sumC (inL v T ts) xs j) := by
  have eT : tmax T t = T := tmax_hi ht
  have h1 := al_cnt (t := T) (m := m) q.may
  have h2 := sum_F (t := T) (m := m) q.may
  have h3 := cnt_sh (T := tmax T t) q.may
  rw [eT, q.le T ht] at h1 h3
  have h4 : sumF (eG0 v t T n f h) (eL v t T n f) = sumC (inL v T ts) xs j := by unfold eG0 eL eJ; rw [eT]; exact h3.symm
  rw [h4] at h2
  refine ⟨?_, ?_, ?_, ?_⟩
  · rw [← q.le T ht]; exact cnt_nn (fun i hi => q.may.nn i hi)
  · rw [← q.le T ht]
    refine Int.le_trans (sumF_le (g := h) (fun i hi => ?_)) q.may.all
    have := q.may.nn i hi
    split <;> omega
  · intro e
    refine ⟨h1.1 e, ?_⟩
    unfold eRm
    rw [h2, if_pos e]
  · intro e
    refine ⟨?_, ?_⟩
    · rcases Int.lt_or_le l (sumC (inL v T ts) xs j + m) with c | c
      · exact c
      · rw [h1.2 c] at e; cases e
    · unfold eRm
      rw [h2, if_neg (by rw [e]; simp)]
      omega
/-- What a list of one's own holds at a place. -/
theorem own_at {B : Nat} {w : World} {vv : Value} {zs : List Int} (h : Own1 B 3 w vv (iv zs)) (h0 : zs ≠ []) : ∃ (g cap : Nat), vv = .slice (some ⟨g, 0, none⟩) zs.length cap ∧ zs.length ≤ cap ∧ cap ≤ maxLen ∧ g < w.heap.size ∧ ∀ q, q < zs.length → w.cell? ⟨g, q, none⟩ = some (.int .i64 (zs.getD q 0)) := by
  obtain ⟨g, cap, rest, e, _, hm, hh, hl⟩ := h.has (by intro e; apply h0; simpa [iv] using e)
  rw [iv_len] at e hl
  refine ⟨g, cap, e, by omega, hm, hh.lt, fun q hq => ?_⟩
  rw [hh.cell q, List.getElem?_append_left (by rw [iv_len]; exact hq)]
  simp [iv, List.getD_eq_getElem?_getD, hq]
end Go.Proofs.Ytgdcgilhaedbmaa.exactRate
