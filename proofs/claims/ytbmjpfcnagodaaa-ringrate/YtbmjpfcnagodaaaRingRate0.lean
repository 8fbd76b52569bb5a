/- For every policy and every list of asks the law RingRate returns true: of any Window less one Slot of ticks no more is let in than Limit, and what is refused would make it more in a Window. No condition. -/
import Derived.Test.YtbmjpfcnagodaaaRgLive
import Derived.Test.YtbmjpfcnagodaaaCel0
import Derived.Test.YtbmjpfcnagodaaaOwn1
import Derived.Deep.RegionHeld3
import Derived.Deep.DeepCutAuto
import Derived.BigQuiet
namespace Go.Proofs.Ytbmjpfcnagodaaa.ringRate
open Go.Joins Go.ChangeShapes Go.WideShapes Go.ChangeAt Go.RowKit Go.Deep
set_option linter.unusedVariables false

theorem cellsR : Try.prog.cellsOf 45 = 2 := by kernel_rfl
theorem open_rate {H : Type} {enc : TypeId × Value → H} {w : World} {base fuel : Nat} {held : Bool} {v : Value} {x : DataW H × List MemPlace}
    (hf : DataW.trod enc Try.prog w base (fun _ => true) held fuel 41 [v] = some x) : ∃ A len cap, v = .slice A len cap ∧ IsHits w A len cap := by
  rcases Deep.open_slice Try.underlying41 hf with ⟨hcs, _⟩ | ⟨x, l, c, m, n, D, Pl, hcs, _, hl, hm, hmm, _, hi⟩
  · simp at hcs
    exact ⟨_, _, _, hcs, Nat.le_refl _, Nat.zero_le _, fun h => absurd h (by omega)⟩
  · simp at hcs hmm
    subst hmm
    rw [cellsR] at hi
    refine ⟨_, _, _, hcs, hl, hm, fun h0 => ?_⟩
    obtain ⟨b, off, spot⟩ := x
    obtain ⟨cs0, hc0, _⟩ := hi 0 (by omega)
    obtain ⟨_, hl0, hat0⟩ := World.cells?_some hc0
    have hs0 := hat0 0 (by decide)
    rw [List.getElem?_eq_getElem (show 0 < cs0.length by omega)] at hs0
    have hspot : spot = none := by simpa [Addr.add] using World.cell?_spot hs0
    subst hspot
    have e2 : ∀ b off i, (⟨b, off, none⟩ : Addr).add i = ⟨b, off + i, none⟩ := fun b off i => by unfold Addr.add; split <;> simp_all
    have hlt : b < w.heap.size := by
      have := block_lt_of_cell hs0
      rw [e2, e2] at this
      exact this
    refine ⟨b, off, rfl, hlt, fun i hil => ?_⟩
    obtain ⟨cs, hc, htr⟩ := hi i (by omega)
    obtain ⟨_, hlc, hat⟩ := World.cells?_some hc
    match cs, hlc with
    | [v0, v1], _ =>
      obtain ⟨_, u0, y0, e0, t0⟩ := each_field Try.underlying45 (by kernel_rfl) rfl htr 0 _ rfl
      obtain ⟨_, u1, y1, e1, t1⟩ := each_field Try.underlying45 (by kernel_rfl) rfl htr 1 _ rfl
      simp at e0 e1
      subst e0 e1
      obtain ⟨z0, q0, _, _⟩ := DataW.trod_int Try.underlying3 t0
      obtain ⟨z1, q1, _, _⟩ := DataW.trod_int Try.underlying3 t1
      simp at q0 q1
      subst q0 q1
      have a0 := hat 0 (by decide)
      have a1 := hat 1 (by decide)
      simp only [e2] at a0 a1
      exact ⟨z0, z1, a0, a1⟩
theorem open_ops {H : Type} {enc : TypeId × Value → H} {w : World} {r : Reach} {b0 base : Nat} {held : Bool} {v : Value} {d : DataW H} {p : List MemPlace} (hv : Value.okWide Try.prog w r b0 41 v)
    (h : DataW.Trod enc Try.prog w base (fun _ => true) held 41 v d p) : ∃ A len cap, v = .slice A len cap ∧ IsHits w A len cap := by
  obtain ⟨a, len, cap, rfl⟩ := okWide_slice Try.underlying41 hv
  obtain ⟨fuel, hf⟩ := h
  exact open_rate (by simpa [Value.cells] using hf)


theorem infoI : (Try.prog.info? 3).map (fun i => (i.zero, i.size, i.bytes)) = some (some (.int .i64 0), 1, 8) := by kernel_rfl
/-- Numbers, as values. -/
def iv (zs : List Int) : List Value := zs.map (Value.int .i64)
theorem iv_len (zs : List Int) : (iv zs).length = zs.length := by simp [iv]
theorem iv_snoc (zs : List Int) (z : Int) : iv (zs ++ [z]) = iv zs ++ [.int .i64 z] := by simp [iv]
/-- The block of a list of sums. -/
def InB (sa : Option Addr) (sn : Nat) (c : Nat) : Prop := 0 < sn ∧ ∃ o, sa = some ⟨c, o, none⟩
theorem sums_kept {F : Nat → Prop} {w w' : World} {sa : Option Addr} {sn : Nat} {f : Nat → Int} (h : SumsAt w sa sn f) (hk : Kept F w w') (hF : ∀ c, InB sa sn c → ¬ F c) : SumsAt w' sa sn f := by
  intro h0
  obtain ⟨b, off, e, hl, hc⟩ := h h0
  have hb := hk.block b hl (hF b ⟨h0, off, e⟩)
  exact ⟨b, off, e, Nat.lt_of_lt_of_le hl hk.size, fun i hi => (World.cell?_of_block (w := w) (a := ⟨b, off + i, none⟩) hb).trans (hc i hi)⟩
theorem inB_lt {w : World} {sa : Option Addr} {sn : Nat} {f : Nat → Int} (h : SumsAt w sa sn f) {c : Nat} (hc : InB sa sn c) : c < w.heap.size := by
  obtain ⟨h0, o, e⟩ := hc
  obtain ⟨b, off, e2, hl, _⟩ := h h0
  rw [e] at e2; cases e2; exact hl
/-- A block that lies behind all that is known. -/
structure Fr (g : Nat) (vT vI : Value) (X : Nat) : Prop where
  g : g < X
  t : ∀ c, vT.ownBlock = some c → c < X
  i : ∀ c, vI.ownBlock = some c → c < X
theorem Fr.next {g X : Nat} {vT vI : Value} (h : Fr g vT vI X) : Fr g vT vI (X + 1) := ⟨Nat.lt_succ_of_lt h.g, fun c hc => Nat.lt_succ_of_lt (h.t c hc), fun c hc => Nat.lt_succ_of_lt (h.i c hc)⟩
/-- The policy, the cell as it stands with its sums, and the two lists. -/
structure RateAt (w0 : World) (k l v b : Int) (g B : Nat) (t : Int) (sa : Option Addr) (sn sc : Nat) (f : Nat → Int) (vT vI : Value) (ts xs : List Int) (w : World) : Prop where
  p : Has w w0.heap.size 23 [.int .i64 k, .int .i64 l, .int .i64 v, .int .i64 b]
  c : Has w g 27 [.int .i64 t, .int .i64 0, .slice sa sn sc, .slice none 0 0]
  be : Below w0.heap.size w0 w
  gl : w0.heap.size < g
  oT : Own1 B 3 w vT (iv ts)
  oI : Own1 B 3 w vI (iv xs)
  ne : ∀ c, vT.ownBlock = some c → vI.ownBlock ≠ some c
  gB : g < B
  s : SumsAt w sa sn f
  av : ∀ c, InB sa sn c → c ≠ g ∧ vT.ownBlock ≠ some c ∧ vI.ownBlock ≠ some c
theorem below_N {B : Nat} {w w' : World} (h : Below B w w') (m : Nat) : Below B w (w'.drewN m) := ⟨h.os, h.tape, h.output, h.size, h.block⟩
theorem set4_kept (w : World) (X : Nat) (x0 x1 x2 x3 : Value) : Kept (fun c => c = X) w ((((w.setCell ⟨X, 0, none⟩ x0).setCell ⟨X, 1, none⟩ x1).setCell ⟨X, 2, none⟩ x2).setCell ⟨X, 3, none⟩ x3) :=
  ((((Kept.refl (fun c => c = X) w).setCell (p := ⟨X, 0, none⟩) (.inl rfl) x0).setCell (p := ⟨X, 1, none⟩) (.inl rfl) x1).setCell (p := ⟨X, 2, none⟩) (.inl rfl) x2).setCell (p := ⟨X, 3, none⟩) (.inl rfl) x3
theorem has_put4 {w : World} {g : Nat} {ty : TypeId} {a b c d : Value} (h : Has w g ty [a, b, c, d]) (x0 x1 x2 x3 : Value) : Has ((((w.setCell ⟨g, 0, none⟩ x0).setCell ⟨g, 1, none⟩ x1).setCell ⟨g, 2, none⟩ x2).setCell ⟨g, 3, none⟩ x3) g ty [x0, x1, x2, x3] := by
  have h4 := (((h.store 0 x0).store 1 x1).store 2 x2).store 3 x3
  simpa using h4
theorem has_kept {F : Nat → Prop} {w w' : World} {g : Nat} {t : TypeId} {l : List Value} (h : Has w g t l) (hk : Kept F w w') (hF : ¬ F g) : Has w' g t l := by
  have := hk.block g h.lt hF
  unfold Has at *
  rw [this]; exact h
theorem has_set4 {w : World} {g B : Nat} {t : TypeId} {l : List Value} (h : Has w g t l) (hB : g ≠ B) (x0 x1 x2 x3 : Value) : Has ((((w.setCell ⟨B, 0, none⟩ x0).setCell ⟨B, 1, none⟩ x1).setCell ⟨B, 2, none⟩ x2).setCell ⟨B, 3, none⟩ x3) g t l := has_kept h (set4_kept w B x0 x1 x2 x3) hB
theorem has_drew {w : World} {g : Nat} {ty : TypeId} {ls : List Value} (h : Has w g ty ls) : Has w.drew g ty ls := h
theorem made10 (w : World) (t : TypeId) (ls : List Value) (o : Obj) : Has ((w.alloc o).alloc (.cells ls.toArray t)) (w.heap.size + 1) t ls := by
  have := Has.made (w.alloc o) t ls
  simpa using this
section
variable {w0 w w' : World} {k l v b t : Int} {sa : Option Addr} {sn sc : Nat} {f : Nat → Int} {g B : Nat} {vT vI : Value} {ts xs : List Int}
theorem RateAt.kept {F : Nat → Prop} (h : RateAt w0 k l v b g B t sa sn sc f vT vI ts xs w) (hk : Kept F w w') (h1 : ¬ F w0.heap.size) (h2 : ¬ F g) (h0 : ∀ c, c < w0.heap.size → ¬ F c) (hT : ∀ c, vT.ownBlock = some c → ¬ F c) (hI : ∀ c, vI.ownBlock = some c → ¬ F c) (hS : ∀ c, InB sa sn c → ¬ F c) : RateAt w0 k l v b g B t sa sn sc f vT vI ts xs w' :=
  ⟨has_kept h.p hk h1, has_kept h.c hk h2, h.be.trans (hk.below h.be.size h0), h.gl, h.oT.kept hk hT, h.oI.kept hk hI, h.ne, h.gB, sums_kept h.s hk hS, h.av⟩
theorem RateAt.step (h : RateAt w0 k l v b g B t sa sn sc f vT vI ts xs w) (hb : Below w.heap.size w w') : RateAt w0 k l v b g B t sa sn sc f vT vI ts xs w' := h.kept (Kept.of_below (F := fun _ => False) hb) id id (fun _ _ => id) (fun _ _ => id) (fun _ _ => id) (fun _ _ => id)
theorem RateAt.drewN (h : RateAt w0 k l v b g B t sa sn sc f vT vI ts xs w) (m : Nat) : RateAt w0 k l v b g B t sa sn sc f vT vI ts xs (w.drewN m) := h.step (below_N (Below.refl _ _) m)
theorem RateAt.drew (h : RateAt w0 k l v b g B t sa sn sc f vT vI ts xs w) : RateAt w0 k l v b g B t sa sn sc f vT vI ts xs w.drew := h.step (Below.refl _ _).drew
theorem RateAt.alloc (h : RateAt w0 k l v b g B t sa sn sc f vT vI ts xs w) (o : Obj) : RateAt w0 k l v b g B t sa sn sc f vT vI ts xs (w.alloc o) := h.step ((Below.refl _ _).alloc (Nat.le_refl _) o)
theorem RateAt.cells (h : RateAt w0 k l v b g B t sa sn sc f vT vI ts xs w) : (w.cell? ⟨w0.heap.size, 0, none⟩ = some (.int .i64 k) ∧ w.cell? ⟨w0.heap.size, 1, none⟩ = some (.int .i64 l) ∧ w.cell? ⟨w0.heap.size, 2, none⟩ = some (.int .i64 v) ∧ w.cell? ⟨w0.heap.size, 3, none⟩ = some (.int .i64 b)) ∧ w.cell? ⟨g, 0, none⟩ = some (.int .i64 t) ∧ w.cell? ⟨g, 1, none⟩ = some (.int .i64 0) ∧ w.cell? ⟨g, 2, none⟩ = some (.slice sa sn sc) ∧ w.cell? ⟨g, 3, none⟩ = some (.slice none 0 0) := ⟨h.p.four, h.c.four⟩
theorem RateAt.set4 (h : RateAt w0 k l v b g B t sa sn sc f vT vI ts xs w) {X : Nat} (hX : Fr g vT vI X) (hS : ∀ c, InB sa sn c → c < X) (x0 x1 x2 x3 : Value) : RateAt w0 k l v b g B t sa sn sc f vT vI ts xs ((((w.setCell ⟨X, 0, none⟩ x0).setCell ⟨X, 1, none⟩ x1).setCell ⟨X, 2, none⟩ x2).setCell ⟨X, 3, none⟩ x3) := by
  have hl := h.gl
  have hg := hX.g
  exact h.kept (set4_kept w X x0 x1 x2 x3) (by omega) (by omega) (fun c hc => by omega) (fun c hc => by have := hX.t c hc; omega) (fun c hc => by have := hX.i c hc; omega) (fun c hc => by have := hS c hc; omega)
theorem RateAt.fr (h : RateAt w0 k l v b g B t sa sn sc f vT vI ts xs w) : Fr g vT vI w.heap.size := ⟨h.c.lt, fun c hc => h.oT.lt hc, fun c hc => h.oI.lt hc⟩
theorem RateAt.sl (h : RateAt w0 k l v b g B t sa sn sc f vT vI ts xs w) (c : Nat) (hc : InB sa sn c) : c < w.heap.size := inB_lt h.s hc
/-- The cell is laid anew. -/
theorem RateAt.upd (h : RateAt w0 k l v b g B t sa sn sc f vT vI ts xs w) {T : Int} {gS n : Nat} {F : Nat → Int} (hs : Has w gS 3 (rowF .i64 F n)) (hg : gS ≠ g) (hT : vT.ownBlock ≠ some gS) (hI : vI.ownBlock ≠ some gS) : RateAt w0 k l v b g B T (some ⟨gS, 0, none⟩) n n F vT vI ts xs ((((w.setCell ⟨g, 0, none⟩ (.int .i64 T)).setCell ⟨g, 1, none⟩ (.int .i64 0)).setCell ⟨g, 2, none⟩ (.slice (some ⟨gS, 0, none⟩) n n)).setCell ⟨g, 3, none⟩ (.slice none 0 0)) := by
  have hl := h.gl
  have hB := h.gB
  have hk := set4_kept w g (.int .i64 T) (.int .i64 0) (.slice (some ⟨gS, 0, none⟩) n n) (.slice none 0 0)
  exact ⟨has_kept h.p hk (by omega), has_put4 h.c _ _ _ _, h.be.trans (hk.below h.be.size (fun c hc => by omega)), hl, h.oT.kept hk (fun c hc => by have := h.oT.ge hc; omega), h.oI.kept hk (fun c hc => by have := h.oI.ge hc; omega), h.ne, hB, sums_row (has_kept hs hk hg), fun c hc => by
    obtain ⟨_, o, e⟩ := hc
    cases e
    exact ⟨hg, hT, hI⟩⟩
theorem RateAt.appT (h : RateAt w0 k l v b g B t sa sn sc f vT vI ts xs w) {z : Int} {vT' : Value} {g7 : Nat} (e7 : vT'.ownBlock = some g7) (ho : Own1 B 3 w' vT' (iv ts ++ [.int .i64 z])) (hk : Kept (fun c => vT.ownBlock = some c) w w') (hg : vT.ownBlock = some g7 ∨ w.heap.size ≤ g7) : RateAt w0 k l v b g B t sa sn sc f vT' vI (ts ++ [z]) xs w' := by
  have hl := h.gl
  have hB := h.gB
  have hge : ∀ c, vT.ownBlock = some c → B ≤ c := fun c hc => h.oT.ge hc
  have hs : ∀ c, InB sa sn c → vT'.ownBlock ≠ some c := fun c hc e => by
    rw [e7] at e
    cases e
    rcases hg with hg | hg
    · exact (h.av g7 hc).2.1 hg
    · have := h.sl g7 hc; omega
  refine ⟨has_kept h.p hk (fun e => by have := hge _ e; omega), has_kept h.c hk (fun e => by have := hge _ e; omega), h.be.trans (hk.below h.be.size (fun c hc e => by have := hge _ e; omega)), hl, by rw [iv_snoc]; exact ho, h.oI.kept hk (fun c hc e => h.ne c e hc), ?_, hB, sums_kept h.s hk (fun c hc => (h.av c hc).2.1), fun c hc => ⟨(h.av c hc).1, hs c hc, (h.av c hc).2.2⟩⟩
  intro c hc hi
  rw [e7] at hc
  cases hc
  rcases hg with hg | hg
  · exact h.ne g7 hg hi
  · have := h.oI.lt hi; omega
theorem RateAt.appI (h : RateAt w0 k l v b g B t sa sn sc f vT vI ts xs w) {z : Int} {vI' : Value} {g7 : Nat} (e7 : vI'.ownBlock = some g7) (ho : Own1 B 3 w' vI' (iv xs ++ [.int .i64 z])) (hk : Kept (fun c => vI.ownBlock = some c) w w') (hg : vI.ownBlock = some g7 ∨ w.heap.size ≤ g7) : RateAt w0 k l v b g B t sa sn sc f vT vI' ts (xs ++ [z]) w' := by
  have hl := h.gl
  have hB := h.gB
  have hge : ∀ c, vI.ownBlock = some c → B ≤ c := fun c hc => h.oI.ge hc
  have hs : ∀ c, InB sa sn c → vI'.ownBlock ≠ some c := fun c hc e => by
    rw [e7] at e
    cases e
    rcases hg with hg | hg
    · exact (h.av g7 hc).2.2 hg
    · have := h.sl g7 hc; omega
  refine ⟨has_kept h.p hk (fun e => by have := hge _ e; omega), has_kept h.c hk (fun e => by have := hge _ e; omega), h.be.trans (hk.below h.be.size (fun c hc e => by have := hge _ e; omega)), hl, h.oT.kept hk (fun c hc e => h.ne c hc e), by rw [iv_snoc]; exact ho, ?_, hB, sums_kept h.s hk (fun c hc => (h.av c hc).2.2), fun c hc => ⟨(h.av c hc).1, (h.av c hc).2.1, hs c hc⟩⟩
  intro c hc hi
  rw [e7] at hi
  cases hi
  rcases hg with hg | hg
  · exact h.ne g7 hc hg
  · have := h.oT.lt hc; omega
end
/-- What an ask told, wherever it lies. -/
def Got (w0 : World) (k l v b : Int) (g B : Nat) (t : Int) (sa : Option Addr) (sn sc : Nat) (f : Nat → Int) (vT vI : Value) (ts xs : List Int) (T : Int) (n : Nat) (F : Nat → Int) (al : Bool) (rm rt rs : Int) (s9 s10 : Value) (w : World) : Prop :=
  ∃ g9 g10 gS : Nat, s9 = .pointer (some ⟨g9, 0, none⟩) ∧ s10 = .pointer (some ⟨g10, 0, none⟩) ∧ RateAt w0 k l v b g B t sa sn sc f vT vI ts xs w ∧ Has w g9 27 [.int .i64 T, .int .i64 0, .slice (some ⟨gS, 0, none⟩) n n, .slice none 0 0] ∧ Has w g10 32 [.bool al, .int .i64 rm, .int .i64 rt, .int .i64 rs] ∧ Fr g vT vI g9 ∧ Fr g vT vI g10 ∧ Has w gS 3 (rowF .i64 F n) ∧ Fr g vT vI gS

section
variable {w0 w5 : World} {k l v b t : Int} {sa : Option Addr} {sn sc : Nat} {f : Nat → Int} {g B : Nat} {vT vI : Value} {ts xs : List Int} {T : Int} {n gS : Nat} {F : Nat → Int} {al : Bool} {rm rt rs : Int}
theorem got0 (R : RateAt w0 k l v b g B t sa sn sc f vT vI ts xs w5) (S5 : Has w5 gS 3 (rowF .i64 F n)) (HFrame9 : Fr g vT vI gS) : Got w0 k l v b g B t sa sn sc f vT vI ts xs T n F al rm rt rs (.pointer (some ⟨w5.heap.size, 0, none⟩)) (.pointer (some ⟨w5.heap.size + 1, 0, none⟩)) ((w5.alloc (.cells #[.int .i64 T, .int .i64 0, .slice (some ⟨gS, 0, none⟩) n n, .slice none 0 0] 27)).alloc (.cells #[.bool al, .int .i64 rm, .int .i64 rt, .int .i64 rs] 32)) :=
  ⟨_, _, gS, rfl, rfl, (R.alloc _).alloc _, made1 w5 27 [.int .i64 T, .int .i64 0, .slice (some ⟨gS, 0, none⟩) n n, .slice none 0 0] _, made10 w5 32 [.bool al, .int .i64 rm, .int .i64 rt, .int .i64 rs] _, R.fr, R.fr.next, (S5.alloc _).alloc _, HFrame9⟩
theorem got1 (R : RateAt w0 k l v b g B t sa sn sc f vT vI ts xs w5) (S5 : Has w5 gS 3 (rowF .i64 F n)) (HFrame9 : Fr g vT vI gS) : Got w0 k l v b g B t sa sn sc f vT vI ts xs T n F al rm rt rs (.pointer (some ⟨w5.heap.size + 1, 0, none⟩)) (.pointer (some ⟨w5.heap.size, 0, none⟩)) ((w5.alloc (.cells #[.bool al, .int .i64 rm, .int .i64 rt, .int .i64 rs] 32)).alloc (.cells #[.int .i64 T, .int .i64 0, .slice (some ⟨gS, 0, none⟩) n n, .slice none 0 0] 27)) :=
  ⟨_, _, gS, rfl, rfl, (R.alloc _).alloc _, made10 w5 27 [.int .i64 T, .int .i64 0, .slice (some ⟨gS, 0, none⟩) n n, .slice none 0 0] _, made1 w5 32 [.bool al, .int .i64 rm, .int .i64 rt, .int .i64 rs] _, R.fr.next, R.fr, (S5.alloc _).alloc _, HFrame9⟩
theorem set4_size (w : World) (B : Nat) (x0 x1 x2 x3 : Value) : ((((w.setCell ⟨B, 0, none⟩ x0).setCell ⟨B, 1, none⟩ x1).setCell ⟨B, 2, none⟩ x2).setCell ⟨B, 3, none⟩ x3).heap.size = w.heap.size := by simp [World.setCell]
theorem madeS (w : World) (B : Nat) (x0 x1 x2 x3 : Value) (ty : TypeId) (ls : List Value) : Has (((((w.setCell ⟨B, 0, none⟩ x0).setCell ⟨B, 1, none⟩ x1).setCell ⟨B, 2, none⟩ x2).setCell ⟨B, 3, none⟩ x3).alloc (.cells ls.toArray ty)) w.heap.size ty ls := by
  have := Has.made ((((w.setCell ⟨B, 0, none⟩ x0).setCell ⟨B, 1, none⟩ x1).setCell ⟨B, 2, none⟩ x2).setCell ⟨B, 3, none⟩ x3) ty ls
  rwa [set4_size] at this
theorem got2 (R : RateAt w0 k l v b g B t sa sn sc f vT vI ts xs w5) (S5 : Has w5 gS 3 (rowF .i64 F n)) (HFrame9 : Fr g vT vI gS) {X : Nat} {a b' c d : Value} (N : Has w5 X 27 [a, b', c, d]) (hB : Fr g vT vI X) (hS : ∀ c, InB sa sn c → c < X) (hX : gS ≠ X) : Got w0 k l v b g B t sa sn sc f vT vI ts xs T n F al rm rt rs (.pointer (some ⟨X, 0, none⟩)) (.pointer (some ⟨w5.heap.size, 0, none⟩)) (((((w5.setCell ⟨X, 0, none⟩ (.int .i64 T)).setCell ⟨X, 1, none⟩ (.int .i64 0)).setCell ⟨X, 2, none⟩ (.slice (some ⟨gS, 0, none⟩) n n)).setCell ⟨X, 3, none⟩ (.slice none 0 0)).alloc (.cells #[.bool al, .int .i64 rm, .int .i64 rt, .int .i64 rs] 32)) :=
  ⟨_, _, gS, rfl, rfl, (R.set4 hB hS _ _ _ _).alloc _, (has_put4 N _ _ _ _).alloc _, madeS w5 X _ _ _ _ 32 [.bool al, .int .i64 rm, .int .i64 rt, .int .i64 rs], hB, R.fr, (has_set4 S5 hX _ _ _ _).alloc _, HFrame9⟩
theorem got3 (R : RateAt w0 k l v b g B t sa sn sc f vT vI ts xs w5) (S5 : Has w5 gS 3 (rowF .i64 F n)) (HFrame9 : Fr g vT vI gS) {X : Nat} {a b' c d : Value} (N : Has w5 X 32 [a, b', c, d]) (hB : Fr g vT vI X) (hS : ∀ c, InB sa sn c → c < X) (hX : gS ≠ X) : Got w0 k l v b g B t sa sn sc f vT vI ts xs T n F al rm rt rs (.pointer (some ⟨w5.heap.size, 0, none⟩)) (.pointer (some ⟨X, 0, none⟩)) (((((w5.setCell ⟨X, 0, none⟩ (.bool al)).setCell ⟨X, 1, none⟩ (.int .i64 rm)).setCell ⟨X, 2, none⟩ (.int .i64 rt)).setCell ⟨X, 3, none⟩ (.int .i64 rs)).alloc (.cells #[.int .i64 T, .int .i64 0, .slice (some ⟨gS, 0, none⟩) n n, .slice none 0 0] 27)) :=
  ⟨_, _, gS, rfl, rfl, (R.set4 hB hS _ _ _ _).alloc _, madeS w5 X _ _ _ _ 27 [.int .i64 T, .int .i64 0, .slice (some ⟨gS, 0, none⟩) n n, .slice none 0 0], (has_put4 N _ _ _ _).alloc _, R.fr, hB, (has_set4 S5 hX _ _ _ _).alloc _, HFrame9⟩
theorem got4 (R : RateAt w0 k l v b g B t sa sn sc f vT vI ts xs w5) (S5 : Has w5 gS 3 (rowF .i64 F n)) (HFrame9 : Fr g vT vI gS) {X X' : Nat} {a b' c d a2 b2 c2 d2 : Value} (N : Has w5 X 27 [a, b', c, d]) (N' : Has w5 X' 32 [a2, b2, c2, d2]) (hB : Fr g vT vI X) (hB' : Fr g vT vI X') (hS : ∀ c, InB sa sn c → c < X) (hS' : ∀ c, InB sa sn c → c < X') (hn : X ≠ X') (hX : gS ≠ X) (hX' : gS ≠ X') : Got w0 k l v b g B t sa sn sc f vT vI ts xs T n F al rm rt rs (.pointer (some ⟨X, 0, none⟩)) (.pointer (some ⟨X', 0, none⟩)) ((((((((w5.setCell ⟨X, 0, none⟩ (.int .i64 T)).setCell ⟨X, 1, none⟩ (.int .i64 0)).setCell ⟨X, 2, none⟩ (.slice (some ⟨gS, 0, none⟩) n n)).setCell ⟨X, 3, none⟩ (.slice none 0 0)).setCell ⟨X', 0, none⟩ (.bool al)).setCell ⟨X', 1, none⟩ (.int .i64 rm)).setCell ⟨X', 2, none⟩ (.int .i64 rt)).setCell ⟨X', 3, none⟩ (.int .i64 rs)) :=
  ⟨_, _, gS, rfl, rfl, (R.set4 hB hS _ _ _ _).set4 hB' hS' _ _ _ _, has_set4 (has_put4 N _ _ _ _) hn _ _ _ _, has_put4 (has_set4 N' (Ne.symm hn) _ _ _ _) _ _ _ _, hB, hB', has_set4 (has_set4 S5 hX _ _ _ _) hX' _ _ _ _, HFrame9⟩
theorem ne1 (n : Nat) : n ≠ n + 1 := by omega
theorem ne2 (n : Nat) : n + 1 ≠ n := by omega
end
/-- What the region of an ask reads. -/
abbrev Rd (W : World) (k l v b : Int) (g : Nat) (t : Int) (sa : Option Addr) (sn sc : Nat) (b1 o : Nat) (m : Int) (w' : World) : Prop := ((w'.cell? ⟨W.heap.size, 0, none⟩ = some (.int .i64 k) ∧ w'.cell? ⟨W.heap.size, 1, none⟩ = some (.int .i64 l) ∧ w'.cell? ⟨W.heap.size, 2, none⟩ = some (.int .i64 v) ∧ w'.cell? ⟨W.heap.size, 3, none⟩ = some (.int .i64 b)) ∧ w'.cell? ⟨g, 0, none⟩ = some (.int .i64 t) ∧ w'.cell? ⟨g, 1, none⟩ = some (.int .i64 0) ∧ w'.cell? ⟨g, 2, none⟩ = some (.slice sa sn sc) ∧ w'.cell? ⟨g, 3, none⟩ = some (.slice none 0 0)) ∧ w'.cell? ⟨b1, o, none⟩ = some (.int .i64 m)
theorem RateAt.rd {W w : World} {k l v b t m : Int} {sa : Option Addr} {sn sc : Nat} {f : Nat → Int} {g B b1 o : Nat} {vT vI : Value} {ts xs : List Int} (h : RateAt W k l v b g B t sa sn sc f vT vI ts xs w) (hb1 : b1 < W.heap.size) (hm : W.cell? ⟨b1, o, none⟩ = some (.int .i64 m)) : Rd W k l v b g t sa sn sc b1 o m w := ⟨h.cells, (h.be.cell (p := ⟨b1, o, none⟩) hb1).trans hm⟩

/-- What of what was let in still counts at a bucket. -/
def hsum (b sl : Int) (ts xs : List Int) (X : Int) : Nat → Int
  | 0 => 0
  | q + 1 => hsum b sl ts xs X q + if X < ts.getD q 0 / sl + b then xs.getD q 0 else 0
/-- What was let in is what the ring counts. -/
structure Inv (l b sl t : Int) (sn : Nat) (f : Nat → Int) (ts xs : List Int) (j : Nat) : Prop where
  lt : ts.length = j
  lx : xs.length = j
  bx : ∀ x ∈ xs, 0 ≤ x ∧ x ≤ 1048576
  bt : ∀ q, q < j → 0 ≤ ts.getD q 0 ∧ ts.getD q 0 ≤ t
  may : MaySums l b (t / sl) sn f
  le : ∀ X, t / sl ≤ X → cntV b (t / sl) X sn f = hsum b sl ts xs X j
theorem getD_snoc_lt {zs : List Int} {z : Int} {q : Nat} (h : q < zs.length) : (zs ++ [z]).getD q 0 = zs.getD q 0 := by
  rw [List.getD_eq_getElem?_getD, List.getD_eq_getElem?_getD, List.getElem?_append_left h]
theorem getD_snoc_eq (zs : List Int) (z : Int) : (zs ++ [z]).getD zs.length 0 = z := by
  rw [List.getD_eq_getElem?_getD, List.getElem?_append_right (Nat.le_refl _)]; simp
theorem hsum_snoc (b sl : Int) (ts xs : List Int) (T x X : Int) (j : Nat) (hl : ts.length = j) (hx : xs.length = j) : hsum b sl (ts ++ [T]) (xs ++ [x]) X (j + 1) = hsum b sl ts xs X j + if X < T / sl + b then x else 0 := by
  have key : ∀ q, q ≤ j → hsum b sl (ts ++ [T]) (xs ++ [x]) X q = hsum b sl ts xs X q := by
    intro q
    induction q with
    | zero => intro _; rfl
    | succ q ih =>
      intro hq
      simp only [hsum]
      rw [ih (by omega), getD_snoc_lt (by omega), getD_snoc_lt (by omega)]
  simp only [hsum]
  rw [key j (Nat.le_refl _)]
  have e1 : (ts ++ [T]).getD j 0 = T := by rw [← hl]; exact getD_snoc_eq _ _
  have e2 : (xs ++ [x]).getD j 0 = x := by rw [← hx]; exact getD_snoc_eq _ _
  rw [e1, e2]
theorem Inv.next {k l v b sl t T m : Int} {sn : Nat} {f : Nat → Int} {ts xs : List Int} {j : Nat} (hP : RP k l v b sl) (h : Inv l b sl t sn f ts xs j) (ht0 : 0 ≤ t) (ht : t ≤ T) (m1 : 1 ≤ m) (m2 : m ≤ 1048576) :
    Inv l b sl T b.toNat (rF l b sl t T m sn f) (ts ++ [T]) (xs ++ [if rAl l b sl t T m sn f = true then m else 0]) (j + 1) := by
  have eT : tmax T t = T := tmax_hi ht
  refine ⟨by simp [h.lt], by simp [h.lx], ?_, ?_, ?_, ?_⟩
  · intro x hx
    rcases List.mem_append.1 hx with hx | hx
    · exact h.bx x hx
    · rw [List.mem_singleton.1 hx]; split <;> omega
  · intro q hq
    by_cases e : q < j
    · rw [getD_snoc_lt (by rw [h.lt]; exact e)]
      have := h.bt q e
      omega
    · have : q = ts.length := by rw [h.lt]; omega
      subst this
      rw [getD_snoc_eq]; omega
  · have := may_F (t := T) (m := m) hP h.may ht0 (by omega)
    rw [eT] at this
    exact this
  · intro X hX
    have := cnt_F (t := T) (m := m) hP h.may ht0 (X := X) (by rw [eT]; exact hX)
    rw [eT] at this
    have hd : t / sl ≤ T / sl := Int.ediv_le_ediv (by have := hP.bd; omega) ht
    rw [this, hsum_snoc _ _ _ _ _ _ _ _ h.lt h.lx, h.le X (by omega)]
    congr 1
    by_cases c : X < T / sl + b
    · rw [if_pos c]
      by_cases e : rAl l b sl t T m sn f = true
      · rw [if_pos ⟨e, c⟩, if_pos e]
      · rw [if_neg (fun q => e q.1), if_neg e]
    · rw [if_neg c, if_neg (fun q => c q.2)]
/-- What a list of one's own holds at a place. -/
theorem own_at {B : Nat} {w : World} {vv : Value} {zs : List Int} (h : Own1 B 3 w vv (iv zs)) (h0 : zs ≠ []) : ∃ (g cap : Nat), vv = .slice (some ⟨g, 0, none⟩) zs.length cap ∧ zs.length ≤ cap ∧ cap ≤ maxLen ∧ g < w.heap.size ∧ ∀ q, q < zs.length → w.cell? ⟨g, q, none⟩ = some (.int .i64 (zs.getD q 0)) := by
  obtain ⟨g, cap, rest, e, _, hm, hh, hl⟩ := h.has (by intro e; apply h0; simpa [iv] using e)
  rw [iv_len] at e hl
  refine ⟨g, cap, e, by omega, hm, hh.lt, fun q hq => ?_⟩
  rw [hh.cell q, List.getElem?_append_left (by rw [iv_len]; exact hq)]
  simp [iv, List.getD_eq_getElem?_getD, hq]

theorem getD_bx {xs : List Int} (h : ∀ x ∈ xs, 0 ≤ x ∧ x ≤ 1048576) {r : Nat} (hr : r < xs.length) : 0 ≤ xs.getD r 0 ∧ xs.getD r 0 ≤ 1048576 := by
  rw [List.getD_eq_getElem?_getD, List.getElem?_eq_getElem hr, Option.getD_some]; exact h _ (List.getElem_mem hr)

/-- What the law adds up of the short and of the long span, asks 0 to q. -/
def sumC (p : Nat → Bool) (xs : List Int) : Nat → Int
  | 0 => 0
  | q + 1 => sumC p xs q + if p q = true then xs.getD q 0 else 0
theorem sumC_bd {p : Nat → Bool} {xs : List Int} (h : ∀ x ∈ xs, 0 ≤ x ∧ x ≤ 1048576) (q : Nat) (hq : q ≤ xs.length) : 0 ≤ sumC p xs q ∧ sumC p xs q ≤ q * 1048576 := by
  induction q with
  | zero => simp [sumC]
  | succ q ih =>
    have h1 := ih (by omega)
    have h2 := getD_bx h (show q < xs.length by omega)
    simp only [sumC]
    split <;> omega
theorem sumC_le {b sl X : Int} {p : Nat → Bool} {ts xs : List Int} (h : ∀ x ∈ xs, 0 ≤ x ∧ x ≤ 1048576) (q : Nat) (hq : q ≤ xs.length) (hp : ∀ r, r < q → p r = true → X < ts.getD r 0 / sl + b) : sumC p xs q ≤ hsum b sl ts xs X q := by
  induction q with
  | zero => exact Int.le_refl _
  | succ q ih =>
    have h1 := ih (by omega) (fun r hr => hp r (by omega))
    have h2 := getD_bx h (show q < xs.length by omega)
    have h3 := hp q (by omega)
    simp only [sumC, hsum]
    by_cases c : p q = true
    · rw [if_pos c, if_pos (h3 c)]; omega
    · rw [if_neg c]; split <;> omega
theorem sumC_ge {b sl X : Int} {p : Nat → Bool} {ts xs : List Int} (h : ∀ x ∈ xs, 0 ≤ x ∧ x ≤ 1048576) (q : Nat) (hq : q ≤ xs.length) (hp : ∀ r, r < q → X < ts.getD r 0 / sl + b → p r = true) : hsum b sl ts xs X q ≤ sumC p xs q := by
  induction q with
  | zero => exact Int.le_refl _
  | succ q ih =>
    have h1 := ih (by omega) (fun r hr => hp r (by omega))
    have h2 := getD_bx h (show q < xs.length by omega)
    have h3 := hp q (by omega)
    simp only [sumC, hsum]
    by_cases c : X < ts.getD q 0 / sl + b
    · rw [if_pos c, if_pos (h3 c)]; omega
    · rw [if_neg c]; split <;> omega
/-- Which asks lie in the short span, and which in the long one. -/
def inS (v b sl T : Int) (ts : List Int) (q : Nat) : Bool := decide (T - v + sl < ts.getD q 0 ∨ (b = 1 ∧ ts.getD q 0 / sl = T / sl))
def inL (v T : Int) (ts : List Int) (q : Nat) : Bool := decide (T - v < ts.getD q 0)
theorem inS_of {v b sl T : Int} {ts : List Int} {q : Nat} (hs : 1 ≤ sl) (hv : sl * b = v) (hT : 0 ≤ T) (h : inS v b sl T ts q = true) : T / sl < ts.getD q 0 / sl + b := by
  unfold inS at h
  simp only [decide_eq_true_eq] at h
  have q2 : sl * (T / sl) + T % sl = T := Int.mul_ediv_add_emod T sl
  have q3 : 0 ≤ T % sl := Int.emod_nonneg _ (by omega)
  generalize ts.getD q 0 = x at *
  rcases h with h | ⟨h1, h2⟩
  · have h3 : sl * (T / sl - b + 1) ≤ x := by rw [show T / sl - b + 1 = T / sl + (1 - b) by omega, Int.mul_add, Int.mul_sub, Int.mul_one]; omega
    have h4 : T / sl - b + 1 ≤ x / sl := by rw [Int.le_ediv_iff_mul_le (by omega), Int.mul_comm]; exact h3
    omega
  · omega
theorem inL_of {v b sl T : Int} {ts : List Int} {q : Nat} (hs : 1 ≤ sl) (hv : sl * b = v) (hT : 0 ≤ T) (h : T / sl < ts.getD q 0 / sl + b) : inL v T ts q = true := by
  unfold inL
  simp only [decide_eq_true_eq]
  have q2 : sl * (T / sl) + T % sl = T := Int.mul_ediv_add_emod T sl
  have q4 : T % sl < sl := Int.emod_lt_of_pos _ (by omega)
  generalize ts.getD q 0 = x at *
  have p2 : sl * (x / sl) + x % sl = x := Int.mul_ediv_add_emod x sl
  have p3 : 0 ≤ x % sl := Int.emod_nonneg _ (by omega)
  have h1 : sl * (T / sl - b + 1) ≤ sl * (x / sl) := Int.mul_le_mul_of_nonneg_left (by omega) (by omega)
  rw [show T / sl - b + 1 = T / sl + (1 - b) by omega, Int.mul_add, Int.mul_sub, Int.mul_one] at h1
  omega
/-- What the law asks of an ask. -/
theorem asked {k l v b sl t T m : Int} {sn : Nat} {f : Nat → Int} {ts xs : List Int} {j : Nat} (hP : RP k l v b sl) (h : Inv l b sl t sn f ts xs j) (ht0 : 0 ≤ t) (ht : t ≤ T) (m1 : 1 ≤ m) (m2 : m ≤ 1048576) :
    sumC (inS v b sl T (ts ++ [T])) (xs ++ [if rAl l b sl t T m sn f = true then m else 0]) (j + 1) ≤ l ∧ (rAl l b sl t T m sn f = false → l < sumC (inL v T (ts ++ [T])) (xs ++ [if rAl l b sl t T m sn f = true then m else 0]) (j + 1) + m) := by
  have hn := h.next hP ht0 ht m1 m2
  obtain ⟨l1, l2, v1, v2, b1, b2, s1, s2, hv⟩ := hP.bd
  have eT : tmax T t = T := tmax_hi ht
  have hd : t / sl ≤ T / sl := Int.ediv_le_ediv (by omega) ht
  constructor
  · have q1 := sumC_le (b := b) (sl := sl) (X := T / sl) (p := inS v b sl T (ts ++ [T])) (ts := ts ++ [T]) hn.bx (j + 1) (by rw [hn.lx]; exact Nat.le_refl _) (fun r _ hr => inS_of s1 hv (by omega) hr)
    rw [← hn.le (T / sl) (Int.le_refl _)] at q1
    exact Int.le_trans q1 (cnt_le b1 hn.may (by omega) (Int.le_refl _))
  · intro e
    have q1 := sumC_ge (b := b) (sl := sl) (X := T / sl) (p := inL v T (ts ++ [T])) (ts := ts ++ [T]) hn.bx (j + 1) (by rw [hn.lx]; exact Nat.le_refl _) (fun r _ hr => inL_of s1 hv (by omega) hr)
    rw [← hn.le (T / sl) (Int.le_refl _)] at q1
    have q2 := cnt_F (t := T) (m := m) hP h.may ht0 (X := T / sl) (by rw [eT]; exact Int.le_refl _)
    rw [eT, if_neg (fun q => by rw [e] at q; exact absurd q.1 (by simp)), Int.add_zero] at q2
    have q3 : ¬ cntV b (t / sl) (T / sl) sn f + m ≤ l := fun q => by
      have := (al_iff (t := T) (m := m) hP h.may).2 (by rw [eT]; exact q)
      rw [e] at this; cases this
    omega
end Go.Proofs.Ytbmjpfcnagodaaa.ringRate
