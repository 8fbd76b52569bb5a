/- For every policy and every list of asks the law GcraRate returns true: of what is let in from any ask to any later one there is no more than the Limit, and what runs out in between. No condition. -/
import Derived.Test.YtdmephlappmmdaaRows
import Derived.Test.YtdmephlappmmdaaGcLive
import Derived.Test.YtdmephlappmmdaaGc7
import Derived.Test.YtdmephlappmmdaaGcPure
import Derived.Test.YtdmephlappmmdaaCel0
import Derived.Test.YtdmephlappmmdaaOwn1
import Derived.Deep.RegionHeld3
import Derived.Deep.DeepCutAuto
namespace Go.Proofs.Ytdmephlappmmdaa.gcraRate
open Go.Joins Go.ChangeShapes Go.WideShapes Go.ChangeAt Go.RowKit Go.Deep
set_option linter.unusedVariables false

theorem cellsR : Try.prog.cellsOf 45 = 2 := by kernel_rfl
theorem open_rate {H : Type} {enc : TypeId × Value → H} {w : World} {base fuel : Nat} {held : Bool} {v : Value} {x : DataW H × List MemPlace}
    (hf : DataW.trod enc Try.prog w base (fun _ => true) held fuel 41 [v] = some x) : ∃ A len cap, v = .slice A len cap ∧ IsHits w A len cap := by
  rcases Deep.open_slice Try.underlying41 hf with ⟨hcs, _⟩ | ⟨x, l, c, m, n, D, Pl, hcs, _, hl, hm, hmm, _, hi⟩
  · simp at hcs
    exact ⟨_, _, _, hcs, Nat.le_refl _, Nat.zero_le _, fun h => absurd h (by omega)⟩
  · simp at hcs hmm
    subst hmm
    rw [cellsR] at hi
    refine ⟨_, _, _, hcs, hl, hm, fun h0 => ?_⟩
    obtain ⟨b, off, spot⟩ := x
    obtain ⟨cs0, hc0, _⟩ := hi 0 (by omega)
    obtain ⟨_, hl0, hat0⟩ := World.cells?_some hc0
    have hs0 := hat0 0 (by decide)
    rw [List.getElem?_eq_getElem (show 0 < cs0.length by omega)] at hs0
    have hspot : spot = none := by simpa [Addr.add] using World.cell?_spot hs0
    subst hspot
    have e2 : ∀ b off i, (⟨b, off, none⟩ : Addr).add i = ⟨b, off + i, none⟩ := fun b off i => by unfold Addr.add; split <;> simp_all
    have hlt : b < w.heap.size := by
      have := block_lt_of_cell hs0
      rw [e2, e2] at this
      exact this
    refine ⟨b, off, rfl, hlt, fun i hil => ?_⟩
    obtain ⟨cs, hc, htr⟩ := hi i (by omega)
    obtain ⟨_, hlc, hat⟩ := World.cells?_some hc
    match cs, hlc with
    | [v0, v1], _ =>
      obtain ⟨_, u0, y0, e0, t0⟩ := each_field Try.underlying45 (by kernel_rfl) rfl htr 0 _ rfl
      obtain ⟨_, u1, y1, e1, t1⟩ := each_field Try.underlying45 (by kernel_rfl) rfl htr 1 _ rfl
      simp at e0 e1
      subst e0 e1
      obtain ⟨z0, q0, _, _⟩ := DataW.trod_int Try.underlying3 t0
      obtain ⟨z1, q1, _, _⟩ := DataW.trod_int Try.underlying3 t1
      simp at q0 q1
      subst q0 q1
      have a0 := hat 0 (by decide)
      have a1 := hat 1 (by decide)
      simp only [e2] at a0 a1
      exact ⟨z0, z1, a0, a1⟩
theorem open_ops {H : Type} {enc : TypeId × Value → H} {w : World} {r : Reach} {b0 base : Nat} {held : Bool} {v : Value} {d : DataW H} {p : List MemPlace} (hv : Value.okWide Try.prog w r b0 41 v)
    (h : DataW.Trod enc Try.prog w base (fun _ => true) held 41 v d p) : ∃ A len cap, v = .slice A len cap ∧ IsHits w A len cap := by
  obtain ⟨a, len, cap, rfl⟩ := okWide_slice Try.underlying41 hv
  obtain ⟨fuel, hf⟩ := h
  exact open_rate (by simpa [Value.cells] using hf)


theorem infoI : (Try.prog.info? 3).map (fun i => (i.zero, i.size, i.bytes)) = some (some (.int .i64 0), 1, 8) := by kernel_rfl
/-- Numbers, as values. -/
def iv (zs : List Int) : List Value := zs.map (Value.int .i64)
theorem iv_len (zs : List Int) : (iv zs).length = zs.length := by simp [iv]
theorem iv_snoc (zs : List Int) (z : Int) : iv (zs ++ [z]) = iv zs ++ [.int .i64 z] := by simp [iv]
/-- A block that lies behind all that is known. -/
structure Fr (g : Nat) (vT vI : Value) (X : Nat) : Prop where
  g : g < X
  t : ∀ c, vT.ownBlock = some c → c < X
  i : ∀ c, vI.ownBlock = some c → c < X
theorem Fr.next {g X : Nat} {vT vI : Value} (h : Fr g vT vI X) : Fr g vT vI (X + 1) := ⟨Nat.lt_succ_of_lt h.g, fun c hc => Nat.lt_succ_of_lt (h.t c hc), fun c hc => Nat.lt_succ_of_lt (h.i c hc)⟩
/-- The policy, the cell as it stands, and the two lists. -/
structure RateAt (w0 : World) (k l v b : Int) (g B : Nat) (t s : Int) (vT vI : Value) (ts xs : List Int) (w : World) : Prop where
  p : Has w w0.heap.size 23 [.int .i64 k, .int .i64 l, .int .i64 v, .int .i64 b]
  c : Has w g 27 [.int .i64 t, .int .i64 s, .slice none 0 0, .slice none 0 0]
  be : Below w0.heap.size w0 w
  gl : w0.heap.size < g
  oT : Own1 B 3 w vT (iv ts)
  oI : Own1 B 3 w vI (iv xs)
  ne : ∀ c, vT.ownBlock = some c → vI.ownBlock ≠ some c
  gB : g < B
theorem below_N {B : Nat} {w w' : World} (h : Below B w w') (m : Nat) : Below B w (w'.drewN m) := ⟨h.os, h.tape, h.output, h.size, h.block⟩
theorem set4_kept (w : World) (X : Nat) (x0 x1 x2 x3 : Value) : Kept (fun c => c = X) w ((((w.setCell ⟨X, 0, none⟩ x0).setCell ⟨X, 1, none⟩ x1).setCell ⟨X, 2, none⟩ x2).setCell ⟨X, 3, none⟩ x3) :=
  ((((Kept.refl (fun c => c = X) w).setCell (p := ⟨X, 0, none⟩) (.inl rfl) x0).setCell (p := ⟨X, 1, none⟩) (.inl rfl) x1).setCell (p := ⟨X, 2, none⟩) (.inl rfl) x2).setCell (p := ⟨X, 3, none⟩) (.inl rfl) x3
theorem has_put4 {w : World} {g : Nat} {ty : TypeId} {a b c d : Value} (h : Has w g ty [a, b, c, d]) (x0 x1 x2 x3 : Value) : Has ((((w.setCell ⟨g, 0, none⟩ x0).setCell ⟨g, 1, none⟩ x1).setCell ⟨g, 2, none⟩ x2).setCell ⟨g, 3, none⟩ x3) g ty [x0, x1, x2, x3] := by
  have h4 := (((h.store 0 x0).store 1 x1).store 2 x2).store 3 x3
  simpa using h4
theorem has_kept {F : Nat → Prop} {w w' : World} {g : Nat} {t : TypeId} {l : List Value} (h : Has w g t l) (hk : Kept F w w') (hF : ¬ F g) : Has w' g t l := by
  have := hk.block g h.lt hF
  unfold Has at *
  rw [this]; exact h
theorem has_set4 {w : World} {g B : Nat} {t : TypeId} {l : List Value} (h : Has w g t l) (hB : g ≠ B) (x0 x1 x2 x3 : Value) : Has ((((w.setCell ⟨B, 0, none⟩ x0).setCell ⟨B, 1, none⟩ x1).setCell ⟨B, 2, none⟩ x2).setCell ⟨B, 3, none⟩ x3) g t l := has_kept h (set4_kept w B x0 x1 x2 x3) hB
theorem has_drew {w : World} {g : Nat} {ty : TypeId} {ls : List Value} (h : Has w g ty ls) : Has w.drew g ty ls := h
theorem made10 (w : World) (t : TypeId) (ls : List Value) (o : Obj) : Has ((w.alloc o).alloc (.cells ls.toArray t)) (w.heap.size + 1) t ls := by
  have := Has.made (w.alloc o) t ls
  simpa using this
section
variable {w0 w w' : World} {k l v b t s : Int} {g B : Nat} {vT vI : Value} {ts xs : List Int}
theorem RateAt.kept {F : Nat → Prop} (h : RateAt w0 k l v b g B t s vT vI ts xs w) (hk : Kept F w w') (h1 : ¬ F w0.heap.size) (h2 : ¬ F g) (h0 : ∀ c, c < w0.heap.size → ¬ F c) (hT : ∀ c, vT.ownBlock = some c → ¬ F c) (hI : ∀ c, vI.ownBlock = some c → ¬ F c) : RateAt w0 k l v b g B t s vT vI ts xs w' :=
  ⟨has_kept h.p hk h1, has_kept h.c hk h2, h.be.trans (hk.below h.be.size h0), h.gl, h.oT.kept hk hT, h.oI.kept hk hI, h.ne, h.gB⟩
theorem RateAt.step (h : RateAt w0 k l v b g B t s vT vI ts xs w) (hb : Below w.heap.size w w') : RateAt w0 k l v b g B t s vT vI ts xs w' := h.kept (Kept.of_below (F := fun _ => False) hb) id id (fun _ _ => id) (fun _ _ => id) (fun _ _ => id)
theorem RateAt.drewN (h : RateAt w0 k l v b g B t s vT vI ts xs w) (m : Nat) : RateAt w0 k l v b g B t s vT vI ts xs (w.drewN m) := h.step (below_N (Below.refl _ _) m)
theorem RateAt.drew (h : RateAt w0 k l v b g B t s vT vI ts xs w) : RateAt w0 k l v b g B t s vT vI ts xs w.drew := h.step (Below.refl _ _).drew
theorem RateAt.alloc (h : RateAt w0 k l v b g B t s vT vI ts xs w) (o : Obj) : RateAt w0 k l v b g B t s vT vI ts xs (w.alloc o) := h.step ((Below.refl _ _).alloc (Nat.le_refl _) o)
theorem RateAt.cells (h : RateAt w0 k l v b g B t s vT vI ts xs w) : (w.cell? ⟨w0.heap.size, 0, none⟩ = some (.int .i64 k) ∧ w.cell? ⟨w0.heap.size, 1, none⟩ = some (.int .i64 l) ∧ w.cell? ⟨w0.heap.size, 2, none⟩ = some (.int .i64 v) ∧ w.cell? ⟨w0.heap.size, 3, none⟩ = some (.int .i64 b)) ∧ w.cell? ⟨g, 0, none⟩ = some (.int .i64 t) ∧ w.cell? ⟨g, 1, none⟩ = some (.int .i64 s) ∧ w.cell? ⟨g, 2, none⟩ = some (.slice none 0 0) ∧ w.cell? ⟨g, 3, none⟩ = some (.slice none 0 0) := ⟨h.p.four, h.c.four⟩
theorem RateAt.set4 (h : RateAt w0 k l v b g B t s vT vI ts xs w) {X : Nat} (hX : Fr g vT vI X) (x0 x1 x2 x3 : Value) : RateAt w0 k l v b g B t s vT vI ts xs ((((w.setCell ⟨X, 0, none⟩ x0).setCell ⟨X, 1, none⟩ x1).setCell ⟨X, 2, none⟩ x2).setCell ⟨X, 3, none⟩ x3) := by
  have hl := h.gl
  have hg := hX.g
  exact h.kept (set4_kept w X x0 x1 x2 x3) (by omega) (by omega) (fun c hc => by omega) (fun c hc => by have := hX.t c hc; omega) (fun c hc => by have := hX.i c hc; omega)
theorem RateAt.fr (h : RateAt w0 k l v b g B t s vT vI ts xs w) : Fr g vT vI w.heap.size := ⟨h.c.lt, fun c hc => h.oT.lt hc, fun c hc => h.oI.lt hc⟩
/-- The cell is laid anew. -/
theorem RateAt.upd (h : RateAt w0 k l v b g B t s vT vI ts xs w) (T H : Int) : RateAt w0 k l v b g B T H vT vI ts xs ((((w.setCell ⟨g, 0, none⟩ (.int .i64 T)).setCell ⟨g, 1, none⟩ (.int .i64 H)).setCell ⟨g, 2, none⟩ (.slice none 0 0)).setCell ⟨g, 3, none⟩ (.slice none 0 0)) := by
  have hl := h.gl
  have hB := h.gB
  have hk := set4_kept w g (.int .i64 T) (.int .i64 H) (.slice none 0 0) (.slice none 0 0)
  exact ⟨has_kept h.p hk (by omega), has_put4 h.c _ _ _ _, h.be.trans (hk.below h.be.size (fun c hc => by omega)), hl, h.oT.kept hk (fun c hc => by have := h.oT.ge hc; omega), h.oI.kept hk (fun c hc => by have := h.oI.ge hc; omega), h.ne, hB⟩
theorem RateAt.appT (h : RateAt w0 k l v b g B t s vT vI ts xs w) {z : Int} {vT' : Value} {g7 : Nat} (e7 : vT'.ownBlock = some g7) (ho : Own1 B 3 w' vT' (iv ts ++ [.int .i64 z])) (hk : Kept (fun c => vT.ownBlock = some c) w w') (hg : vT.ownBlock = some g7 ∨ w.heap.size ≤ g7) : RateAt w0 k l v b g B t s vT' vI (ts ++ [z]) xs w' := by
  have hl := h.gl
  have hB := h.gB
  have hge : ∀ c, vT.ownBlock = some c → B ≤ c := fun c hc => h.oT.ge hc
  refine ⟨has_kept h.p hk (fun e => by have := hge _ e; omega), has_kept h.c hk (fun e => by have := hge _ e; omega), h.be.trans (hk.below h.be.size (fun c hc e => by have := hge _ e; omega)), hl, by rw [iv_snoc]; exact ho, h.oI.kept hk (fun c hc e => h.ne c e hc), ?_, hB⟩
  intro c hc hi
  rw [e7] at hc
  cases hc
  rcases hg with hg | hg
  · exact h.ne g7 hg hi
  · have := h.oI.lt hi; omega
theorem RateAt.appI (h : RateAt w0 k l v b g B t s vT vI ts xs w) {z : Int} {vI' : Value} {g7 : Nat} (e7 : vI'.ownBlock = some g7) (ho : Own1 B 3 w' vI' (iv xs ++ [.int .i64 z])) (hk : Kept (fun c => vI.ownBlock = some c) w w') (hg : vI.ownBlock = some g7 ∨ w.heap.size ≤ g7) : RateAt w0 k l v b g B t s vT vI' ts (xs ++ [z]) w' := by
  have hl := h.gl
  have hB := h.gB
  have hge : ∀ c, vI.ownBlock = some c → B ≤ c := fun c hc => h.oI.ge hc
  refine ⟨has_kept h.p hk (fun e => by have := hge _ e; omega), has_kept h.c hk (fun e => by have := hge _ e; omega), h.be.trans (hk.below h.be.size (fun c hc e => by have := hge _ e; omega)), hl, h.oT.kept hk (fun c hc e => h.ne c hc e), by rw [iv_snoc]; exact ho, ?_, hB⟩
  intro c hc hi
  rw [e7] at hi
  cases hi
  rcases hg with hg | hg
  · exact h.ne g7 hc hg
  · have := h.oT.lt hc; omega
end
/-- What an ask told, wherever it lies. -/
def Got (w0 : World) (k l v b : Int) (g B : Nat) (t s : Int) (vT vI : Value) (ts xs : List Int) (T H : Int) (al : Bool) (rm rt rs : Int) (s9 s10 : Value) (w : World) : Prop :=
  ∃ g9 g10 : Nat, s9 = .pointer (some ⟨g9, 0, none⟩) ∧ s10 = .pointer (some ⟨g10, 0, none⟩) ∧ RateAt w0 k l v b g B t s vT vI ts xs w ∧ Has w g9 27 [.int .i64 T, .int .i64 H, .slice none 0 0, .slice none 0 0] ∧ Has w g10 32 [.bool al, .int .i64 rm, .int .i64 rt, .int .i64 rs] ∧ Fr g vT vI g9 ∧ Fr g vT vI g10

section
variable {w0 w5 : World} {k l v b t s : Int} {g B : Nat} {vT vI : Value} {ts xs : List Int} {T H : Int} {al : Bool} {rm rt rs : Int}
theorem got0 (R : RateAt w0 k l v b g B t s vT vI ts xs w5) : Got w0 k l v b g B t s vT vI ts xs T H al rm rt rs (.pointer (some ⟨w5.heap.size, 0, none⟩)) (.pointer (some ⟨w5.heap.size + 1, 0, none⟩)) ((w5.alloc (.cells #[.int .i64 T, .int .i64 H, .slice none 0 0, .slice none 0 0] 27)).alloc (.cells #[.bool al, .int .i64 rm, .int .i64 rt, .int .i64 rs] 32)) :=
  ⟨_, _, rfl, rfl, (R.alloc _).alloc _, made1 w5 27 [.int .i64 T, .int .i64 H, .slice none 0 0, .slice none 0 0] _, made10 w5 32 [.bool al, .int .i64 rm, .int .i64 rt, .int .i64 rs] _, R.fr, R.fr.next⟩
theorem got1 (R : RateAt w0 k l v b g B t s vT vI ts xs w5) : Got w0 k l v b g B t s vT vI ts xs T H al rm rt rs (.pointer (some ⟨w5.heap.size + 1, 0, none⟩)) (.pointer (some ⟨w5.heap.size, 0, none⟩)) ((w5.alloc (.cells #[.bool al, .int .i64 rm, .int .i64 rt, .int .i64 rs] 32)).alloc (.cells #[.int .i64 T, .int .i64 H, .slice none 0 0, .slice none 0 0] 27)) :=
  ⟨_, _, rfl, rfl, (R.alloc _).alloc _, made10 w5 27 [.int .i64 T, .int .i64 H, .slice none 0 0, .slice none 0 0] _, made1 w5 32 [.bool al, .int .i64 rm, .int .i64 rt, .int .i64 rs] _, R.fr.next, R.fr⟩
theorem set4_size (w : World) (B : Nat) (x0 x1 x2 x3 : Value) : ((((w.setCell ⟨B, 0, none⟩ x0).setCell ⟨B, 1, none⟩ x1).setCell ⟨B, 2, none⟩ x2).setCell ⟨B, 3, none⟩ x3).heap.size = w.heap.size := by simp [World.setCell]
theorem madeS (w : World) (B : Nat) (x0 x1 x2 x3 : Value) (ty : TypeId) (ls : List Value) : Has (((((w.setCell ⟨B, 0, none⟩ x0).setCell ⟨B, 1, none⟩ x1).setCell ⟨B, 2, none⟩ x2).setCell ⟨B, 3, none⟩ x3).alloc (.cells ls.toArray ty)) w.heap.size ty ls := by
  have := Has.made ((((w.setCell ⟨B, 0, none⟩ x0).setCell ⟨B, 1, none⟩ x1).setCell ⟨B, 2, none⟩ x2).setCell ⟨B, 3, none⟩ x3) ty ls
  rwa [set4_size] at this
theorem got2 (R : RateAt w0 k l v b g B t s vT vI ts xs w5) {X : Nat} {a b' c d : Value} (N : Has w5 X 27 [a, b', c, d]) (hB : Fr g vT vI X) : Got w0 k l v b g B t s vT vI ts xs T H al rm rt rs (.pointer (some ⟨X, 0, none⟩)) (.pointer (some ⟨w5.heap.size, 0, none⟩)) (((((w5.setCell ⟨X, 0, none⟩ (.int .i64 T)).setCell ⟨X, 1, none⟩ (.int .i64 H)).setCell ⟨X, 2, none⟩ (.slice none 0 0)).setCell ⟨X, 3, none⟩ (.slice none 0 0)).alloc (.cells #[.bool al, .int .i64 rm, .int .i64 rt, .int .i64 rs] 32)) :=
  ⟨_, _, rfl, rfl, (R.set4 hB _ _ _ _).alloc _, (has_put4 N _ _ _ _).alloc _, madeS w5 X _ _ _ _ 32 [.bool al, .int .i64 rm, .int .i64 rt, .int .i64 rs], hB, R.fr⟩
theorem got3 (R : RateAt w0 k l v b g B t s vT vI ts xs w5) {X : Nat} {a b' c d : Value} (N : Has w5 X 32 [a, b', c, d]) (hB : Fr g vT vI X) : Got w0 k l v b g B t s vT vI ts xs T H al rm rt rs (.pointer (some ⟨w5.heap.size, 0, none⟩)) (.pointer (some ⟨X, 0, none⟩)) (((((w5.setCell ⟨X, 0, none⟩ (.bool al)).setCell ⟨X, 1, none⟩ (.int .i64 rm)).setCell ⟨X, 2, none⟩ (.int .i64 rt)).setCell ⟨X, 3, none⟩ (.int .i64 rs)).alloc (.cells #[.int .i64 T, .int .i64 H, .slice none 0 0, .slice none 0 0] 27)) :=
  ⟨_, _, rfl, rfl, (R.set4 hB _ _ _ _).alloc _, madeS w5 X _ _ _ _ 27 [.int .i64 T, .int .i64 H, .slice none 0 0, .slice none 0 0], (has_put4 N _ _ _ _).alloc _, R.fr, hB⟩
theorem got4 (R : RateAt w0 k l v b g B t s vT vI ts xs w5) {X X' : Nat} {a b' c d a2 b2 c2 d2 : Value} (N : Has w5 X 27 [a, b', c, d]) (N' : Has w5 X' 32 [a2, b2, c2, d2]) (hB : Fr g vT vI X) (hB' : Fr g vT vI X') (hn : X ≠ X') : Got w0 k l v b g B t s vT vI ts xs T H al rm rt rs (.pointer (some ⟨X, 0, none⟩)) (.pointer (some ⟨X', 0, none⟩)) ((((((((w5.setCell ⟨X, 0, none⟩ (.int .i64 T)).setCell ⟨X, 1, none⟩ (.int .i64 H)).setCell ⟨X, 2, none⟩ (.slice none 0 0)).setCell ⟨X, 3, none⟩ (.slice none 0 0)).setCell ⟨X', 0, none⟩ (.bool al)).setCell ⟨X', 1, none⟩ (.int .i64 rm)).setCell ⟨X', 2, none⟩ (.int .i64 rt)).setCell ⟨X', 3, none⟩ (.int .i64 rs)) :=
  ⟨_, _, rfl, rfl, (R.set4 hB _ _ _ _).set4 hB' _ _ _ _, has_set4 (has_put4 N _ _ _ _) hn _ _ _ _, has_put4 (has_set4 N' (Ne.symm hn) _ _ _ _) _ _ _ _, hB, hB'⟩
theorem ne1 (n : Nat) : n ≠ n + 1 := by omega
theorem ne2 (n : Nat) : n + 1 ≠ n := by omega
end

/-- What the region of an ask reads. -/
abbrev Rd (W : World) (k l v b : Int) (g : Nat) (t s : Int) (b1 o : Nat) (m : Int) (w' : World) : Prop := ((w'.cell? ⟨W.heap.size, 0, none⟩ = some (.int .i64 k) ∧ w'.cell? ⟨W.heap.size, 1, none⟩ = some (.int .i64 l) ∧ w'.cell? ⟨W.heap.size, 2, none⟩ = some (.int .i64 v) ∧ w'.cell? ⟨W.heap.size, 3, none⟩ = some (.int .i64 b)) ∧ w'.cell? ⟨g, 0, none⟩ = some (.int .i64 t) ∧ w'.cell? ⟨g, 1, none⟩ = some (.int .i64 s) ∧ w'.cell? ⟨g, 2, none⟩ = some (.slice none 0 0) ∧ w'.cell? ⟨g, 3, none⟩ = some (.slice none 0 0)) ∧ w'.cell? ⟨b1, o, none⟩ = some (.int .i64 m)
theorem rd_alloc {W w' : World} {k l v b t s m : Int} {g b1 o : Nat} (h : Rd W k l v b g t s b1 o m w') (x : Obj) : Rd W k l v b g t s b1 o m (w'.alloc x) := by
  obtain ⟨⟨⟨h0, h1, h2, h3⟩, h4, h5, h6, h7⟩, h8⟩ := h
  have q : ∀ a y, w'.cell? a = some y → (w'.alloc x).cell? a = some y := fun a y hy => by rw [World.cell?_alloc_some w' a x (by rw [hy]; rfl)]; exact hy
  exact ⟨⟨⟨q _ _ h0, q _ _ h1, q _ _ h2, q _ _ h3⟩, q _ _ h4, q _ _ h5, q _ _ h6, q _ _ h7⟩, q _ _ h8⟩
theorem rd_set {W w' : World} {k l v b t s m : Int} {g b1 o B i : Nat} {x : Value} (h : Rd W k l v b g t s b1 o m w') (e1 : W.heap.size < B) (e2 : g < B) (e3 : b1 < B) : Rd W k l v b g t s b1 o m (w'.setCell ⟨B, i, none⟩ x) := by
  obtain ⟨⟨⟨h0, h1, h2, h3⟩, h4, h5, h6, h7⟩, h8⟩ := h
  have q : ∀ (c j : Nat), c < B → (w'.setCell ⟨B, i, none⟩ x).cell? ⟨c, j, none⟩ = w'.cell? ⟨c, j, none⟩ := fun c j hc => World.cell?_of_block (w := w') (Below.heap_setCell w' ⟨B, i, none⟩ x c (by show c ≠ B; omega))
  exact ⟨⟨⟨(q _ _ e1).trans h0, (q _ _ e1).trans h1, (q _ _ e1).trans h2, (q _ _ e1).trans h3⟩, (q _ _ e2).trans h4, (q _ _ e2).trans h5, (q _ _ e2).trans h6, (q _ _ e2).trans h7⟩, (q _ _ e3).trans h8⟩
theorem RateAt.rd {W w : World} {k l v b t s m : Int} {g B b1 o : Nat} {vT vI : Value} {ts xs : List Int} (h : RateAt W k l v b g B t s vT vI ts xs w) (hb1 : b1 < W.heap.size) (hm : W.cell? ⟨b1, o, none⟩ = some (.int .i64 m)) : Rd W k l v b g t s b1 o m w := ⟨h.cells, (h.be.cell (p := ⟨b1, o, none⟩) hb1).trans hm⟩

/-- What was let in from the q-th ask on: never more than what is in the bucket, and what has run out since. -/
structure Inv (l v t n : Int) (ts xs : List Int) (j : Nat) : Prop where
  lt : ts.length = j
  lx : xs.length = j
  bx : ∀ x ∈ xs, 0 ≤ x ∧ x ≤ 1048576
  bt : ∀ q, q < j → 0 ≤ ts.getD q 0 ∧ ts.getD q 0 ≤ t
  le : ∀ q, q < j → (xs.drop q).sum * v ≤ n + l * (t - ts.getD q 0)
theorem sum_bd : ∀ (xs : List Int), (∀ x ∈ xs, 0 ≤ x ∧ x ≤ 1048576) → 0 ≤ xs.sum ∧ xs.sum ≤ xs.length * 1048576
  | [], _ => by simp
  | x :: xs, h => by
    have h1 := h x (by simp)
    have h2 := sum_bd xs (fun y hy => h y (by simp [hy]))
    simp only [List.sum_cons, List.length_cons]
    omega
theorem getD_snoc_lt {zs : List Int} {z : Int} {q : Nat} (h : q < zs.length) : (zs ++ [z]).getD q 0 = zs.getD q 0 := by
  rw [List.getD_eq_getElem?_getD, List.getD_eq_getElem?_getD, List.getElem?_append_left h]
theorem getD_snoc_eq (zs : List Int) (z : Int) : (zs ++ [z]).getD zs.length 0 = z := by
  rw [List.getD_eq_getElem?_getD, List.getElem?_append_right (Nat.le_refl _)]; simp
theorem Inv.next {l v t n T m : Int} {ts xs : List Int} {j : Nat} (h : Inv l v t n ts xs j) (hl : 0 ≤ l) (ht0 : 0 ≤ t) (ht : t ≤ T) (m1 : 1 ≤ m) (m2 : m ≤ 1048576) :
    Inv l v T (askHas l v t n T m) (ts ++ [T]) (xs ++ [if askAl l v t n T m = true then m else 0]) (j + 1) := by
  refine ⟨by simp [h.lt], by simp [h.lx], ?_, ?_, ?_⟩
  · intro x hx
    rcases List.mem_append.1 hx with hx | hx
    · exact h.bx x hx
    · rw [List.mem_singleton.1 hx]; split <;> omega
  · intro q hq
    by_cases e : q < j
    · rw [getD_snoc_lt (by rw [h.lt]; exact e)]
      have := h.bt q e
      omega
    · have : q = ts.length := by rw [h.lt]; omega
      subst this
      rw [getD_snoc_eq]; omega
  · intro q hq
    by_cases e : q < j
    · rw [getD_snoc_lt (by rw [h.lt]; exact e), List.drop_append_of_le_length (by rw [h.lx]; omega), List.sum_append]
      simp only [List.sum_cons, List.sum_nil, Int.add_zero]
      rw [Int.add_mul]
      exact rate_step ht (h.le q e)
    · have e1 : q = ts.length := by rw [h.lt]; omega
      have e2 : (xs ++ [if askAl l v t n T m = true then m else 0]).drop q = [if askAl l v t n T m = true then m else 0] := by
        rw [show q = xs.length by rw [h.lx]; omega, List.drop_left]
      rw [e2, e1, getD_snoc_eq]
      simp only [List.sum_cons, List.sum_nil, Int.add_zero, Int.sub_self, Int.mul_zero]
      exact rate_new hl ht
/-- What a list of one's own holds at a place. -/
theorem own_at {B : Nat} {w : World} {vv : Value} {zs : List Int} (h : Own1 B 3 w vv (iv zs)) (h0 : zs ≠ []) : ∃ (g cap : Nat), vv = .slice (some ⟨g, 0, none⟩) zs.length cap ∧ zs.length ≤ cap ∧ cap ≤ maxLen ∧ g < w.heap.size ∧ ∀ q, q < zs.length → w.cell? ⟨g, q, none⟩ = some (.int .i64 (zs.getD q 0)) := by
  obtain ⟨g, cap, rest, e, _, hm, hh, hl⟩ := h.has (by intro e; apply h0; simpa [iv] using e)
  rw [iv_len] at e hl
  refine ⟨g, cap, e, by omega, hm, hh.lt, fun q hq => ?_⟩
  rw [hh.cell q, List.getElem?_append_left (by rw [iv_len]; exact hq)]
  simp [iv, List.getD_eq_getElem?_getD, hq]

theorem drop_sum (xs : List Int) (r : Nat) (h : r < xs.length) : (xs.drop r).sum = (xs.drop (r + 1)).sum + xs.getD r 0 := by
  rw [List.drop_eq_getElem_cons h, List.sum_cons, List.getD_eq_getElem?_getD, List.getElem?_eq_getElem h, Option.getD_some]; omega
theorem getD_bx {xs : List Int} (h : ∀ x ∈ xs, 0 ≤ x ∧ x ≤ 1048576) {r : Nat} (hr : r < xs.length) : 0 ≤ xs.getD r 0 ∧ xs.getD r 0 ≤ 1048576 := by
  rw [List.getD_eq_getElem?_getD, List.getElem?_eq_getElem hr, Option.getD_some]; exact h _ (List.getElem_mem hr)

set_option maxRecDepth 100000 in
set_option maxHeartbeats 8000000 in
theorem main (k l v b : Int) (A : Option Addr) (len cap : Nat) (f h : Nat → Int) (W : World) (hL : len ≤ 40) (hP : MayP k l v b) (hk : k = 1) (hh : HitsAt W A len f h) :
    Calls Try.prog 6 #[.agg #[.int .i64 k, .int .i64 l, .int .i64 v, .int .i64 b], .slice A len cap] W fun e w' => e = .returned (.bool true) ∧ Below W.heap.size W w' := by
  have CK := Lib.hid (fun u => rCheck_yes k l v b u hP)
  have HH := Lib.hid hh
  have HP := Lib.hid hP
  have HK := Lib.hid hk
  obtain ⟨l1, l2, v1, v2⟩ := hP.lv
  have HM := Lib.hid hP.M
  have tk : (k != 1) = false := by simp [hk]
  have P0 := Lib.hid (Has.made W 23 [.int .i64 k, .int .i64 l, .int .i64 v, .int .i64 b])
  have Q0 := Lib.hid ((Below.refl W.heap.size W).alloc (Nat.le_refl _) (.cells #[.int .i64 k, .int .i64 l, .int .i64 v, .int .i64 b] 23))
  clear hh hP hk
  go_enter Try.func6, Try.ntmps6
  go_wp2_with fail
  refine (CK.out _).mono ?_; rintro e w1 ⟨rfl, hb⟩
  have hz : RateAt W k l v b w1.heap.size (w1.heap.size + 1) 0 0 (.slice none 0 0) (.slice none 0 0) [] [] (w1.alloc (.cells #[.int .i64 0, .int .i64 0, .slice none 0 0, .slice none 0 0] 27)) := by
    have q := P0.out.below hb P0.out.lt
    have q2 : Below W.heap.size W w1 := Q0.out.trans (hb.mono Q0.out.size)
    have q3 := q.lt
    exact ⟨q.alloc _, Has.made w1 27 [.int .i64 0, .int .i64 0, .slice none 0 0, .slice none 0 0], q2.alloc q2.size _, q3, Own1.nil _ _ _, Own1.nil _ _ _, fun c hc => by simp [Value.ownBlock] at hc, Nat.lt_succ_self _⟩
  have j0 := (P0.out.below hb P0.out.lt).cell 0
  simp at j0
  clear hb P0 Q0 CK
  go_wp2_with fail
  clear j0
  generalize w1.alloc (.cells #[.int .i64 0, .int .i64 0, .slice none 0 0, .slice none 0 0] 27) = w2 at hz ⊢
  generalize w1.heap.size = g at hz ⊢
  have R0 := Lib.hid hz
  clear hz
  go_loopw [6, 7, 8, 9] (fun vt sT sI vi wr => ∃ (j : Nat) (t n : Int) (ts xs : List Int) (vT vI : Value), vT = sT ∧ vI = sI ∧ j ≤ len ∧ vi = .int .i64 (j : Int) ∧ vt = .int .i64 t ∧ 0 ≤ t ∧ t ≤ j * 1048576 ∧ Hid (0 ≤ n ∧ n ≤ l * v) ∧ Inv l v t n ts xs j ∧ RateAt W k l v b g (g + 1) t n vT vI ts xs wr) (fun _ _ _ vi _ => len - (intOf vi).toNat)
  case atStart => exact ⟨0, 0, 0, [], [], _, _, rfl, rfl, Nat.zero_le _, rfl, rfl, by omega, by omega, Lib.hid ⟨by omega, by have := HM.out; omega⟩, ⟨rfl, rfl, by simp, fun q hq => absurd hq (by omega), fun q hq => absurd hq (by omega)⟩, R0.out⟩
  case round =>
    obtain ⟨j, t, s, ts, xs, vT, vI, rfl, rfl, hj, rfl, rfl, t0, t1, HS, hI, hr⟩ := hrel
    have R1 := Lib.hid hr
    have IV := Lib.hid hI
    clear hr R0 hI
    by_cases hlt : j < len
    · obtain ⟨b1, o1, rfl, hb1, hf⟩ := HH.out (by omega)
      obtain ⟨hf1, hf2⟩ := hf j hlt
      clear hf
      generalize f j = y at hf1
      generalize h j = m at hf2
      have X1 := Lib.hid hf1
      have X2 := Lib.hid hf2
      have q1 := (R1.out.be.cell (p := ⟨b1, o1 + j * 2, none⟩) hb1).trans hf1
      have q2 := (R1.out.be.cell (p := ⟨b1, o1 + j * 2 + 1, none⟩) hb1).trans hf2
      clear hf1 hf2
      obtain ⟨⟨j0, j1, j2, j3⟩, c0, c1, c2, c3⟩ := R1.out.cells
      by_cases hy : y < 0
      · go_wp2_with fail
        refine (live_any _).mono ?_; rintro e wl ⟨rfl, hb⟩
        have RL := Lib.hid (R1.out.step hb)
        clear hb
        go_wp2_with fail
        go_ret
        exact ⟨rfl, RL.out.be⟩
      by_cases hy2 : 1048576 < y
      · go_wp2_with fail
        refine (live_any _).mono ?_; rintro e wl ⟨rfl, hb⟩
        have RL := Lib.hid (R1.out.step hb)
        clear hb
        go_wp2_with fail
        go_ret
        exact ⟨rfl, RL.out.be⟩
      by_cases hm : 1 ≤ m ∧ m ≤ 1048576
      · obtain ⟨m1, m2⟩ := hm
        have WK := Lib.hid (fun u => rWeighs_yes m u m1 m2)
        go_wp2_with fail
        refine (WK.out _).mono ?_; rintro e w' ⟨rfl, rfl⟩
        have K := Ask_yes k l v b t s (t + y) m none none 0 0 0 0
        have KA : MayA k l v b t s (t + y) m 0 0 := ⟨⟨HP.out, HK.out, ⟨by omega, by omega⟩, HS.out.1, HS.out.2, rfl, rfl⟩, ⟨by omega, by omega⟩, ⟨m1, m2⟩⟩
        have KK := Lib.hid (fun u => K u KA)
        have hT : tmax (t + y) t = t + y := tmax_hi (by omega)
        have hb := KA.1.next KA.2.1.1 KA.2.1.2 (show 0 ≤ m by omega)
        have HB := Lib.hid (show 0 ≤ askHas l v t s (t + y) m ∧ askHas l v t s (t + y) m ≤ l * v from ⟨hb.2.2.2.1, hb.2.2.2.2.1⟩)
        have IN := Lib.hid (IV.out.next (by omega) t0 (show t ≤ t + y by omega) m1 m2)
        unfold askV at KK
        rw [hT] at KK
        clear hT hb K KA
        generalize askRm l v t s (t + y) m = rm at *
        generalize askRt l v t s (t + y) m = rt at *
        generalize askRs l v t s (t + y) m = rs at *
        generalize askAl l v t s (t + y) m = al at *
        generalize askHas l v t s (t + y) m = H at *
        go_upto_region 13 with (fail)
        obtain ⟨T, hTT⟩ : ∃ T, t + y = T := ⟨_, rfl⟩
        rw [hTT] at KK IN ⊢
        have ET := Lib.hid hTT
        clear q1 q2 hTT
        clear j0 j1 j2 j3 c0 c1 c2 c3
        obtain ⟨wa, hwa⟩ : ∃ wa, wr = wa := ⟨_, rfl⟩
        subst hwa
        have R2 := R1
        clear R1
        have B0 : (0 : Int) ≤ (j : Int) := by omega
        have B1 : (j : Int) < (len : Int) := by omega
        go_cut [10, 11] (fun s9 s10 wx => Got W k l v b g (g + 1) t s vT vI ts xs T H al rm rt rs s9 s10 wx)
        case first =>
          have G2 := Lib.hid R2.out.fr
          have G3 := Lib.hid R2.out.fr.next
          go_region_held3 (fun w' => ((w'.cell? ⟨W.heap.size, 0, none⟩ = some (.int .i64 k) ∧ w'.cell? ⟨W.heap.size, 1, none⟩ = some (.int .i64 l) ∧ w'.cell? ⟨W.heap.size, 2, none⟩ = some (.int .i64 v) ∧ w'.cell? ⟨W.heap.size, 3, none⟩ = some (.int .i64 b)) ∧ w'.cell? ⟨g, 0, none⟩ = some (.int .i64 t) ∧ w'.cell? ⟨g, 1, none⟩ = some (.int .i64 s) ∧ w'.cell? ⟨g, 2, none⟩ = some (.slice none 0 0) ∧ w'.cell? ⟨g, 3, none⟩ = some (.slice none 0 0)) ∧ w'.cell? ⟨b1, o1 + j * 2 + 1, none⟩ = some (.int .i64 m)) (first | (with_reducible exact R2.out.rd hb1 X2.out) | (with_reducible exact R2.out.drew.rd hb1 X2.out) | (with_reducible exact (R2.out.alloc (.cells #[.int .i64 0, .int .i64 0, .slice none 0 0, .slice none 0 0] 27)).rd hb1 X2.out) | (with_reducible exact (R2.out.alloc (.cells #[.int .i64 0, .int .i64 0, .slice none 0 0, .slice none 0 0] 27)).drew.rd hb1 X2.out) | (with_reducible exact (R2.out.drew.alloc (.cells #[.int .i64 0, .int .i64 0, .slice none 0 0, .slice none 0 0] 27)).rd hb1 X2.out) | (with_reducible exact (R2.out.alloc (.cells #[.bool false, .int .i64 0, .int .i64 0, .int .i64 0] 32)).rd hb1 X2.out) | (with_reducible exact (R2.out.alloc (.cells #[.bool false, .int .i64 0, .int .i64 0, .int .i64 0] 32)).drew.rd hb1 X2.out) | (with_reducible exact (R2.out.drew.alloc (.cells #[.bool false, .int .i64 0, .int .i64 0, .int .i64 0] 32)).rd hb1 X2.out) | (with_reducible exact ((R2.out.alloc (.cells #[.int .i64 0, .int .i64 0, .slice none 0 0, .slice none 0 0] 27)).alloc (.cells #[.bool false, .int .i64 0, .int .i64 0, .int .i64 0] 32)).rd hb1 X2.out) | (with_reducible exact ((R2.out.alloc (.cells #[.bool false, .int .i64 0, .int .i64 0, .int .i64 0] 32)).alloc (.cells #[.int .i64 0, .int .i64 0, .slice none 0 0, .slice none 0 0] 27)).rd hb1 X2.out) | (with_reducible exact ((R2.out.alloc (.cells #[.int .i64 0, .int .i64 0, .slice none 0 0, .slice none 0 0] 27)).alloc (.cells #[.bool false, .int .i64 0, .int .i64 0, .int .i64 0] 32)).drew.rd hb1 X2.out) | (with_reducible exact ((R2.out.alloc (.cells #[.bool false, .int .i64 0, .int .i64 0, .int .i64 0] 32)).alloc (.cells #[.int .i64 0, .int .i64 0, .slice none 0 0, .slice none 0 0] 27)).drew.rd hb1 X2.out) | (with_reducible exact R5.out.rd hb1 X2.out) | (with_reducible exact (R5.out.alloc _).rd hb1 X2.out) | (with_reducible exact ((R5.out.alloc _).alloc _).rd hb1 X2.out) | (with_reducible exact (R5.out.set4 G2.out _ _ _ _).rd hb1 X2.out) | (with_reducible exact ((R5.out.set4 G2.out _ _ _ _).alloc _).rd hb1 X2.out) | (with_reducible exact (R5.out.set4 G3.out _ _ _ _).rd hb1 X2.out) | (with_reducible exact ((R5.out.set4 G3.out _ _ _ _).alloc _).rd hb1 X2.out) | (with_reducible exact ((R5.out.set4 G2.out _ _ _ _).set4 G3.out _ _ _ _).rd hb1 X2.out) | (with_reducible exact ((R5.out.set4 G3.out _ _ _ _).set4 G2.out _ _ _ _).rd hb1 X2.out) | go_keep) (first | (go_at_call 10; (with_reducible refine (KK.out _).mono ?_); rintro e w5 ⟨rfl, hb⟩; first | ((with_reducible have R5 := Lib.hid ((R2.out.drew).step hb)); clear hb) | ((with_reducible have R5 := Lib.hid (((R2.out.alloc (.cells #[.int .i64 0, .int .i64 0, .slice none 0 0, .slice none 0 0] 27)).drew).step hb)); have N9 := Lib.hid ((has_drew (Has.made wr 27 [.int .i64 0, .int .i64 0, .slice none 0 0, .slice none 0 0])).step hb); obtain ⟨n90, n91, n92, n93⟩ := N9.out.four; have n9f := N9.out.loose; have n9l := N9.out.lt; clear hb) | ((with_reducible have R5 := Lib.hid ((R2.out.drew.alloc (.cells #[.int .i64 0, .int .i64 0, .slice none 0 0, .slice none 0 0] 27)).step hb)); have N9 := Lib.hid ((Has.made wr.drew 27 [.int .i64 0, .int .i64 0, .slice none 0 0, .slice none 0 0]).step hb); obtain ⟨n90, n91, n92, n93⟩ := N9.out.four; have n9f := N9.out.loose; have n9l := N9.out.lt; clear hb) | ((with_reducible have R5 := Lib.hid (((R2.out.alloc (.cells #[.bool false, .int .i64 0, .int .i64 0, .int .i64 0] 32)).drew).step hb)); have N10 := Lib.hid ((has_drew (Has.made wr 32 [.bool false, .int .i64 0, .int .i64 0, .int .i64 0])).step hb); obtain ⟨n100, n101, n102, n103⟩ := N10.out.four; have n10f := N10.out.loose; have n10l := N10.out.lt; clear hb) | ((with_reducible have R5 := Lib.hid ((R2.out.drew.alloc (.cells #[.bool false, .int .i64 0, .int .i64 0, .int .i64 0] 32)).step hb)); have N10 := Lib.hid ((Has.made wr.drew 32 [.bool false, .int .i64 0, .int .i64 0, .int .i64 0]).step hb); obtain ⟨n100, n101, n102, n103⟩ := N10.out.four; have n10f := N10.out.loose; have n10l := N10.out.lt; clear hb) | ((with_reducible have R5 := Lib.hid ((((R2.out.alloc (.cells #[.int .i64 0, .int .i64 0, .slice none 0 0, .slice none 0 0] 27)).alloc (.cells #[.bool false, .int .i64 0, .int .i64 0, .int .i64 0] 32)).drew).step hb)); have N9 := Lib.hid ((has_drew ((Has.made wr 27 [.int .i64 0, .int .i64 0, .slice none 0 0, .slice none 0 0]).alloc (.cells #[.bool false, .int .i64 0, .int .i64 0, .int .i64 0] 32))).step hb); obtain ⟨n90, n91, n92, n93⟩ := N9.out.four; have n9f := N9.out.loose; have n9l := N9.out.lt; have N10 := Lib.hid ((has_drew (made10 wr 32 [.bool false, .int .i64 0, .int .i64 0, .int .i64 0] (.cells #[.int .i64 0, .int .i64 0, .slice none 0 0, .slice none 0 0] 27))).step hb); obtain ⟨n100, n101, n102, n103⟩ := N10.out.four; have n10f := N10.out.loose; have n10l := N10.out.lt; clear hb) | ((with_reducible have R5 := Lib.hid ((((R2.out.alloc (.cells #[.bool false, .int .i64 0, .int .i64 0, .int .i64 0] 32)).alloc (.cells #[.int .i64 0, .int .i64 0, .slice none 0 0, .slice none 0 0] 27)).drew).step hb)); have N10 := Lib.hid ((has_drew ((Has.made wr 32 [.bool false, .int .i64 0, .int .i64 0, .int .i64 0]).alloc (.cells #[.int .i64 0, .int .i64 0, .slice none 0 0, .slice none 0 0] 27))).step hb); obtain ⟨n100, n101, n102, n103⟩ := N10.out.four; have n10f := N10.out.loose; have n10l := N10.out.lt; have N9 := Lib.hid ((has_drew (made10 wr 27 [.int .i64 0, .int .i64 0, .slice none 0 0, .slice none 0 0] (.cells #[.bool false, .int .i64 0, .int .i64 0, .int .i64 0] 32))).step hb); obtain ⟨n90, n91, n92, n93⟩ := N9.out.four; have n9f := N9.out.loose; have n9l := N9.out.lt; clear hb)))
          all_goals (go_wp2_with fail; go_meet)
          all_goals first | (with_reducible exact got0 R5.out) | (with_reducible exact got1 R5.out) | (with_reducible exact got2 R5.out N9.out G2.out) | (with_reducible exact got3 R5.out N10.out G2.out) | (with_reducible exact got4 R5.out N9.out N10.out G2.out G3.out (ne1 _)) | (with_reducible exact got4 R5.out N9.out N10.out G3.out G2.out (ne2 _))
        case rest =>
        obtain ⟨g9, g10, rfl, rfl, hr, h9, h10, l9, l10⟩ := hcut
        clear KK R2
        obtain ⟨⟨j0, j1, j2, j3⟩, c0, c1, c2, c3⟩ := hr.cells
        obtain ⟨a0, a1, a2, a3⟩ := h9.four
        have cf := hr.c.loose
        have n9 : g9 ≠ g := by have := l9.g; omega
        have n9' : g ≠ g9 := by omega
        have HZ := Lib.hid (hr.upd T H)
        have HY := Lib.hid (show Has ((((wc.setCell ⟨g, 0, none⟩ (.int .i64 T)).setCell ⟨g, 1, none⟩ (.int .i64 H)).setCell ⟨g, 2, none⟩ (.slice none 0 0)).setCell ⟨g, 3, none⟩ (.slice none 0 0)) g10 32 [.bool al, .int .i64 rm, .int .i64 rt, .int .i64 rs] from has_set4 h10 (by have := l10.g; omega) _ _ _ _)
        have F10 := Lib.hid l10
        clear hr h9 h10 l9 l10
        go_upto_region 15 with (fail)
        clear j0 j1 j2 j3 c0 c1 c2 c3
        clear a0 a1 a2 a3 cf n9 n9'
        generalize ((((wc.setCell ⟨g, 0, none⟩ (.int .i64 T)).setCell ⟨g, 1, none⟩ (.int .i64 H)).setCell ⟨g, 2, none⟩ (.slice none 0 0)).setCell ⟨g, 3, none⟩ (.slice none 0 0)) = wd at HZ HY ⊢
        have LT := Lib.hid (show (iv ts).length = j by rw [iv_len]; exact IV.out.lt)
        have LI := Lib.hid (show (iv xs).length = j by rw [iv_len]; exact IV.out.lx)
        have SZ := Lib.hid (show g + 1 ≤ wd.heap.size from HZ.out.c.lt)
        have OT := Lib.hid HZ.out.oT
        obtain ⟨AT, cT, hvT⟩ := HZ.out.oT.sl
        rw [iv_len, IV.out.lt] at hvT
        subst hvT
        go_wp2_with (at_builtin; refine wpList_append_own1 wd wd.heap.size rfl rfl _ _ 24 rfl 3 (.int .i64 0) 8 Try.underlying24 infoI rfl (by decide) _ (.int .i64 T) (iv ts) j LT.out rfl rfl rfl OT.out SZ.out (by omega) ?_)
        intro g7 cap7 w7 ho hk hg hgl
        have R7 := Lib.hid (HZ.out.appT (z := T) (vT' := .slice (some ⟨g7, 0, none⟩) (j + 1) cap7) (g7 := g7) rfl ho hk hg)
        have Y7 := Lib.hid (has_kept HY.out hk (fun e => by have := F10.out.t g10 e; omega))
        clear ho hk hg hgl HZ HY OT SZ
        obtain ⟨⟨j0, j1, j2, j3⟩, c0, c1, c2, c3⟩ := R7.out.cells
        obtain ⟨u0, u1, u2, u3⟩ := Y7.out.four
        have q2 := (R7.out.be.cell (p := ⟨b1, o1 + j * 2 + 1, none⟩) hb1).trans X2.out
        have SZ7 := Lib.hid (show g + 1 ≤ w7.heap.size from R7.out.c.lt)
        go_upto_if 84 with (fail)
        go_cut [8] (fun s8 wx => ∃ vI' : Value, vI' = s8 ∧ RateAt W k l v b g (g + 1) T H (.slice (some ⟨g7, 0, none⟩) (j + 1) cap7) vI' (ts ++ [T]) (xs ++ [if al = true then m else 0]) wx)
        case first =>
          have OI := Lib.hid R7.out.oI
          obtain ⟨AI, cI, hvI⟩ := R7.out.oI.sl
          rw [iv_len, IV.out.lx] at hvI
          subst hvI
          cases al
          · go_wp2_with (at_builtin; refine wpList_append_own1 w7 w7.heap.size rfl rfl _ _ 24 rfl 3 (.int .i64 0) 8 Try.underlying24 infoI rfl (by decide) _ (.int .i64 0) (iv xs) j LI.out rfl rfl rfl OI.out SZ7.out (by omega) ?_)
            intro g8 cap8 w8 ho hk hg hgl
            have R8 := Lib.hid (R7.out.appI (z := 0) (vI' := .slice (some ⟨g8, 0, none⟩) (j + 1) cap8) (g7 := g8) rfl ho hk hg)
            clear ho hk hg hgl
            go_wp2_with fail
            go_meet
            exact ⟨_, rfl, R8.out⟩
          · go_wp2_with (at_builtin; refine wpList_append_own1 w7 w7.heap.size rfl rfl _ _ 24 rfl 3 (.int .i64 0) 8 Try.underlying24 infoI rfl (by decide) _ (.int .i64 m) (iv xs) j LI.out rfl rfl rfl OI.out SZ7.out (by omega) ?_)
            intro g8 cap8 w8 ho hk hg hgl
            have R8 := Lib.hid (R7.out.appI (z := m) (vI' := .slice (some ⟨g8, 0, none⟩) (j + 1) cap8) (g7 := g8) rfl ho hk hg)
            clear ho hk hg hgl
            go_wp2_with fail
            go_meet
            exact ⟨_, rfl, R8.out⟩
        case rest =>
        obtain ⟨vI', rfl, hr⟩ := hcut
        clear j0 j1 j2 j3 c0 c1 c2 c3
        clear u0 u1 u2 u3 q2 R7 Y7 SZ7 LT LI F10 IV
        generalize xs ++ [if al = true then m else 0] = XS at hr IN
        generalize ts ++ [T] = TS at hr IN
        obtain ⟨gI, cI, rfl, lI, mI, _, fI⟩ := own_at hr.oI (by intro e; have := IN.out.lx; rw [e] at this; simp at this)
        obtain ⟨gT, cT', eT, lT, mT, _, fT⟩ := own_at hr.oT (by intro e; have := IN.out.lt; rw [e] at this; simp at this)
        rw [IN.out.lx] at lI fI hr ⊢
        rw [IN.out.lt] at lT fT eT
        simp only [Value.slice.injEq, Option.some.injEq, Addr.mk.injEq, and_true, true_and] at eT
        obtain ⟨rfl, rfl⟩ := eT
        have R8 := Lib.hid hr
        have FI := Lib.hid fI
        have FT := Lib.hid fT
        unfold maxLen at mI mT
        clear hr fI fT
        go_wp2_with fail
        go_loopw [12, 13] (fun sm sk wx => ∃ kk : Nat, kk ≤ j + 1 ∧ sk = .int .i64 ((kk : Int) - 1) ∧ sm = .int .i64 ((XS.drop kk).sum) ∧ ∃ q, wx = wc.drewN q) (fun _ sk _ => (intOf sk + 1).toNat)
        case atStart => exact ⟨j + 1, Nat.le_refl _, by go_num, by rw [List.drop_of_length_le (by rw [IN.out.lx]; exact Nat.le_refl _)]; rfl, 0, rfl⟩
        case round =>
          obtain ⟨kk, hkk, rfl, rfl, q, rfl⟩ := hrel
          cases kk with
          | zero =>
            generalize (XS.drop 0).sum = sm
            rw [show (((0 : Nat) : Int) - 1) = -1 from rfl]
            go_wp2_with fail
            go_roundw
            case rel => exact ⟨j + 1, T, H, TS, XS, _, _, rfl, rfl, by omega, by go_num, rfl, by have := ET.out; omega, by have := ET.out; omega, HB, IN.out, R8.out.drewN q⟩
            case measure => simp [intOf]; omega
          | succ r =>
            have d1 := FI.out r (by omega)
            have d2 := FT.out r (by omega)
            obtain ⟨b1', b2'⟩ := sum_bd (XS.drop (r + 1)) (fun x hx => IN.out.bx x (List.mem_of_mem_drop hx))
            have b3' : (XS.drop (r + 1)).sum ≤ 41943040 := by
              have : (XS.drop (r + 1)).length ≤ 40 := by rw [List.length_drop, IN.out.lx]; omega
              omega
            have hd := drop_sum XS r (by rw [IN.out.lx]; omega)
            have hx := getD_bx IN.out.bx (show r < XS.length by rw [IN.out.lx]; omega)
            have ht := IN.out.bt r (by omega)
            have hle := IN.out.le r (by omega)
            rw [hd] at hle
            have HD := Lib.hid hd
            generalize (XS.drop (r + 1)).sum = sm at *
            generalize XS.getD r 0 = xr at *
            generalize TS.getD r 0 = tr at *
            obtain ⟨hx1, hx2⟩ := hx
            obtain ⟨ht1, ht2⟩ := ht
            have TB : T ≤ 41943040 := by have := ET.out; omega
            obtain ⟨p1, p2⟩ := prod_bd (show 0 ≤ sm + xr by omega) (show sm + xr ≤ 67108864 by omega) (show 0 ≤ v by omega) v2
            obtain ⟨p3, p4⟩ := prod_bd (show 0 ≤ l by omega) l2 (show 0 ≤ T - tr by omega) (show T - tr ≤ 41943040 by omega)
            have pM := HM.out
            have pH := HB.out
            have e1 : IntKind.i64.wrap ((sm + xr) * v) = (sm + xr) * v := wrap_i (by omega) (by omega)
            have e2 : IntKind.i64.wrap (l * v) = l * v := wrap_i (by omega) (by omega)
            have e3 : IntKind.i64.wrap (T - tr) = T - tr := wrap_i (by omega) (by omega)
            have e4 : IntKind.i64.wrap (l * (T - tr)) = l * (T - tr) := wrap_i (by omega) (by omega)
            have e5 : IntKind.i64.wrap (l * v + l * (T - tr)) = l * v + l * (T - tr) := wrap_i (by omega) (by omega)
            have d5 : decide (l * v + l * (T - tr) < (sm + xr) * v) = false := by simp; omega
            clear hle hd p1 p2 p3 p4 pM pH
            obtain ⟨⟨j0, j1, j2, j3⟩, c0, c1, c2, c3⟩ := R8.out.cells
            rw [show (((r + 1 : Nat) : Int) - 1) = (r : Int) by omega]
            have B0' : (0 : Int) ≤ (r : Int) := by omega
            have B1' : (r : Int) < ((j + 1 : Nat) : Int) := by omega
            go_wp2_with fail
            go_quiet (fail)
            go_wp2_with fail
            go_roundw
            case rel => exact ⟨r, by omega, rfl, by rw [HD.out], q + nq, rfl⟩
            case measure => simp [intOf]
      · have WK := Lib.hid (fun u => rWeighs_no m u hm)
        clear hm
        go_wp2_with fail
        refine (WK.out _).mono ?_; rintro e w' ⟨rfl, rfl⟩
        go_wp2_with fail
        refine (live_any _).mono ?_; rintro e wl ⟨rfl, hb⟩
        have RL := Lib.hid (R1.out.step hb)
        clear hb
        go_wp2_with fail
        go_ret
        exact ⟨rfl, RL.out.be⟩
    · go_wp2_with fail
      refine (live_any _).mono ?_; rintro e wl ⟨rfl, hb⟩
      have RL := Lib.hid (R1.out.step hb)
      clear hb
      go_wp2_with fail
      go_ret
      exact ⟨rfl, RL.out.be⟩


set_option maxRecDepth 100000 in
theorem e0 (k l v b : Int) (A : Option Addr) (len cap : Nat) (W : World) (hL : 40 < len) (hM : len ≤ maxLen) :
    Calls Try.prog 6 #[.agg #[.int .i64 k, .int .i64 l, .int .i64 v, .int .i64 b], .slice A len cap] W fun e w' => e = .returned (.bool true) ∧ Below W.heap.size W w' := by
  unfold maxLen at hM
  have Q0 := Lib.hid ((Below.refl W.heap.size W).alloc (Nat.le_refl _) (.cells #[.int .i64 k, .int .i64 l, .int .i64 v, .int .i64 b] 23))
  go_enter Try.func6, Try.ntmps6
  go_wp2_with fail
  refine (live_any _).mono ?_; rintro e wl ⟨rfl, hb⟩
  have Q1 := Lib.hid (Q0.out.trans (hb.mono Q0.out.size))
  clear hb
  go_wp2_with fail
  go_ret
  exact ⟨rfl, Q1.out⟩
set_option maxRecDepth 100000 in
theorem e1 (k l v b : Int) (A : Option Addr) (len cap : Nat) (W : World) (hL : len ≤ 40) (hP : ¬ MayP k l v b) :
    Calls Try.prog 6 #[.agg #[.int .i64 k, .int .i64 l, .int .i64 v, .int .i64 b], .slice A len cap] W fun e w' => e = .returned (.bool true) ∧ Below W.heap.size W w' := by
  have CK := Lib.hid (fun u => rCheck_no k l v b u hP)
  have Q0 := Lib.hid ((Below.refl W.heap.size W).alloc (Nat.le_refl _) (.cells #[.int .i64 k, .int .i64 l, .int .i64 v, .int .i64 b] 23))
  clear hP
  go_enter Try.func6, Try.ntmps6
  go_wp2_with fail
  refine (CK.out _).mono ?_; rintro e w1 ⟨rfl, hb⟩
  have Q1 := Lib.hid (Q0.out.trans (hb.mono Q0.out.size))
  clear hb
  go_wp2_with fail
  refine (live_any _).mono ?_; rintro e wl ⟨rfl, hb⟩
  have Q2 := Lib.hid (Q1.out.trans (hb.mono Q1.out.size))
  clear hb
  go_wp2_with fail
  go_ret
  exact ⟨rfl, Q2.out⟩
set_option maxRecDepth 100000 in
theorem e2 (k l v b : Int) (A : Option Addr) (len cap : Nat) (W : World) (hL : len ≤ 40) (hP : MayP k l v b) (hk : ¬ k = 1) :
    Calls Try.prog 6 #[.agg #[.int .i64 k, .int .i64 l, .int .i64 v, .int .i64 b], .slice A len cap] W fun e w' => e = .returned (.bool true) ∧ Below W.heap.size W w' := by
  have CK := Lib.hid (fun u => rCheck_yes k l v b u hP)
  have tk : (k != 1) = true := by simp [hk]
  have Q0 := Lib.hid ((Below.refl W.heap.size W).alloc (Nat.le_refl _) (.cells #[.int .i64 k, .int .i64 l, .int .i64 v, .int .i64 b] 23))
  have P0 := Lib.hid (Has.made W 23 [.int .i64 k, .int .i64 l, .int .i64 v, .int .i64 b])
  clear hP hk
  go_enter Try.func6, Try.ntmps6
  go_wp2_with fail
  refine (CK.out _).mono ?_; rintro e w1 ⟨rfl, hb⟩
  have Q1 := Lib.hid (Q0.out.trans (hb.mono Q0.out.size))
  obtain ⟨j0, j1, j2, j3⟩ := (P0.out.step hb).four
  clear hb
  go_wp2_with fail
  refine (live_any _).mono ?_; rintro e wl ⟨rfl, hb⟩
  have Q2 := Lib.hid (Q1.out.trans (hb.mono Q1.out.size))
  clear hb
  go_wp2_with fail
  go_ret
  exact ⟨rfl, Q2.out⟩

theorem walk (k l v b : Int) (A : Option Addr) (len cap : Nat) (h0 : (Lit.int .i64 k).wf = true) (h1 : (Lit.int .i64 l).wf = true) (h2 : (Lit.int .i64 v).wf = true) (h3 : (Lit.int .i64 b).wf = true) {W : World} (hc : IsHits W A len cap) :
    Calls Try.prog 6 #[.agg #[.int .i64 k, .int .i64 l, .int .i64 v, .int .i64 b], .slice A len cap] W fun e w' => e = .returned (.bool true) ∧ Below W.heap.size W w' := by
  obtain ⟨f, h, hh⟩ := hc.at_
  by_cases hL : len ≤ 40
  · by_cases hP : MayP k l v b
    · by_cases hk : k = 1
      · exact main k l v b A len cap f h W hL hP hk hh
      · exact e2 k l v b A len cap W hL hP hk
    · exact e1 k l v b A len cap W hL hP
  · exact e0 k l v b A len cap W (by omega) (Nat.le_trans hc.1 hc.2.1)

theorem own : ownKnob Try.prog.godebug = none := by kernel_rfl
theorem laidOut : laidOutB Try.prog = true := by kernel_rfl
theorem contract (H : Type) (enc : TypeId × Value → H) (W : World) (base : Nat) (args : Array Value) (ds gs : List (DataW H)) (before : List MemPlace)
    (hval : ∀ (j : Nat) t v, Try.f6.params[j]? = some t → args[j]? = some v → Value.okWide Try.prog W .any base t v)
    (hW : DataW.Whole enc Try.prog Try.f6.params.toList Rows.gcraRateSpec.vars false W args.toList ds gs before) :
    Calls Try.prog 6 args W fun e W' => ∃ v, e = .returned v ∧ Rows.gcraRateSpec.post enc Try.prog Try.f6 false true false false W args v W' := by
  have hW' := hW
  obtain ⟨p, q, hA0, hV, rfl, hfz, hnd⟩ := hW
  have hA : DataW.TrodAll enc Try.prog W 0 (fun _ => true) true Try.f6.params.toList args.toList ds p := hA0
  rw [Try.params6] at hA hval
  obtain ⟨v0, vs0, d0, ds0, p0, q0, hargs, rfl, rfl, h0, r0⟩ := trodAll_cons hA
  obtain ⟨v1, vs1, d1, ds1, p1, q1, rfl, rfl, rfl, h1, r1⟩ := trodAll_cons r0
  obtain ⟨rfl, rfl, rfl⟩ := trodAll_nil r1
  obtain rfl : args = #[v0, v1] := by cases args; simp_all
  obtain ⟨rfl, rfl⟩ := trodVars_none hV
  have k0 := h0
  have lt0 : ∀ x ∈ p0, x.block < W.heap.size := by obtain ⟨m, hm⟩ := k0; exact DataW.trod_lt m _ _ _ hm
  obtain ⟨p0_k, p0_l, p0_v, p0_b, rfl, wp0_k, wp0_l, wp0_v, wp0_b⟩ := open_pol (hval 0 23 v0 rfl rfl) h0
  have k1 := h1
  have lt1 : ∀ x ∈ p1, x.block < W.heap.size := by obtain ⟨m, hm⟩ := k1; exact DataW.trod_lt m _ _ _ hm
  obtain ⟨a1, len1, cap1, rfl, w1⟩ := open_ops (hval 1 41 v1 rfl rfl) h1
  clear hA0
  refine (walk p0_k p0_l p0_v p0_b a1 len1 cap1 wp0_k wp0_l wp0_v wp0_b w1).mono fun e W' ⟨he, bel⟩ => ?_
  subst he
  exact ⟨_, rfl, _, _, _, [], _, [], hW', trodAll_mk1 (shut_bool Try.underlying4 _), (trodAll_cons_mk (Below.trod laidOut (by kernel_rfl) (of_decide_eq_true (by kernel_rfl)) k0 bel lt0) (trodAll_cons_mk (Below.trod laidOut (by kernel_rfl) (of_decide_eq_true (by kernel_rfl)) k1 bel lt1) trodAll_mk0)), rfl, bel.frame _, fun h => by cases h⟩

set_option maxRecDepth 100000 in
theorem lifted (os : Os) (started : os.Started) (H : Type) (enc : TypeId × Value → H) :
    ReturnsInHanded {} Try.checked os 6 .any (Rows.gcraRateSpec.pre6 enc Try.prog Try.f6 Rows.gcraRateRow.domain false) (Rows.gcraRateSpec.post enc Try.prog Try.f6 false true false false) := by
  refine returnsInHanded_of_change (C := Try.checked) own started (by kernel_rfl) Try.func6
    (ChangeSpec.witness6 (enc := enc) (C := Try.checked) false ⟨#[], #[.agg #[.int .i64 0, .int .i64 0, .int .i64 0, .int .i64 0], .slice none 0 0], []⟩ 8 (by kernel_rfl) (by kernel_rfl) (by kernel_rfl) (by kernel_rfl)) ?_
  intro W base args ds gs before hval hW _ _
  exact contract H enc W base args ds gs before hval hW

theorem over : Rows.gcraRateRow.holds Try.pinned (OpenSpec.ofChange Rows.gcraRateSpec) :=
  OpenClaim.holds_of_wide 6 Try.f6 rfl rfl rfl rfl rfl rfl rfl ⟨rfl, rfl, rfl, rfl, rfl⟩ rfl rfl rfl rfl rfl (by kernel_rfl) Try.func6 (by kernel_rfl)
    (of_decide_eq_true (by kernel_rfl)) (by unfold Func.isWrapper; first | (rw [if_pos (by decide +kernel)]; kernel_rfl) | (rw [if_neg (by decide +kernel)]; exact ⟨rfl, rfl⟩))
    (fun os started H enc _ => lifted os started H enc)
end Go.Proofs.Ytdmephlappmmdaa.gcraRate
namespace Go.Proofs.Ytdmephlappmmdaa
theorem gcraRate_proved : Rows.GcraRateSaid := gcraRate.over
end Go.Proofs.Ytdmephlappmmdaa

