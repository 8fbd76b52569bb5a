/- The document's own Recent: Drop, Touch, Oldest, Newer. -/
import Derived.Test.YtjkejlnelkckgaaRcW
namespace Go.Proofs.Ytjkejlnelkckgaa
open Go.ChangeShapes Go.WideShapes Go.ChangeAt Go.RowKit
set_option linter.unusedVariables false

/-- A call of the document's Recent tells v; its ids are l' then. -/
def RkT (bR : Nat) (N : Nat → Prop) (l' : List Nat) (v : Value) (w : World) (e : Ending) (w' : World) : Prop := e = .returned v ∧ (∃ A' cap', RK w' bR N l' A' cap') ∧ Kept (fun b => b = bR) w w'
theorem PlaceAt.at {l1 l2 : List Nat} {x : Nat} {z : Int} (hn : (l1 ++ x :: l2).Nodup) (h : PlaceAt (l1 ++ x :: l2) (x : Int) z) : z = (l1.length : Int) := by
  have e0 : (l1 ++ x :: l2)[l1.length]? = some x := by simp
  rcases h with ⟨i, y, h1, h2, rfl, h4⟩ | ⟨h1, _⟩
  · have : y = x := by omega
    subst this
    rcases Nat.lt_trichotomy i l1.length with g | g | g
    · have := (List.getElem?_inj (List.getElem?_eq_some_iff.1 h1).1 hn).1 (h1.trans e0.symm)
      omega
    · rw [g]
    · exact absurd rfl (h4 _ _ g e0)
  · exact absurd rfl (h1 x (by simp))
theorem rk_store {w0 w5 : World} {bR : Nat} {N : Nat → Prop} {v0 : Value} {g n cap : Nat} {l' : List Nat} (h : Has w0 bR 28 [v0]) (hb : Below w0.heap.size w0 w5) (hO : w5.ownsRow w0.heap.size 3 1 (.slice (some ⟨g, 0, none⟩) n cap) n (idsV l')) (hl : l'.length = n) (hN : ∀ b, N b → b < w0.heap.size) (nb : ¬ N bR) :
    RK (w5.setCell ⟨bR, 0, none⟩ (.slice (some ⟨g, 0, none⟩) n cap)) bR N l' (some ⟨g, 0, none⟩) cap ∧ Kept (fun b => b = bR) w0 (w5.setCell ⟨bR, 0, none⟩ (.slice (some ⟨g, 0, none⟩) n cap)) := by
  obtain ⟨h1, h2⟩ := own_g_lt hO
  have hlt := h.lt
  have hk : Kept (fun b => b = bR) w5 (w5.setCell ⟨bR, 0, none⟩ (.slice (some ⟨g, 0, none⟩) n cap)) := (Kept.refl (fun b => b = bR) w5).setCell (p := ⟨bR, 0, none⟩) (.inl rfl) _
  refine ⟨⟨?_, (ints_of_owns hO hl).kept hk (fun a e => ?_), fun a e => ?_, nb⟩, (Kept.of_below hb).trans hk (fun _ e => .inl e)⟩
  · rw [hl]; exact (h.below hb hlt).store 0 _
  · cases e; show ¬ g = bR; omega
  · cases e
    refine ⟨fun q => ?_, ?_, Nat.lt_of_lt_of_le h1 hk.size⟩
    · have : g < w0.heap.size := hN g q
      omega
    · show g ≠ bR; omega
section
variable (bR : Nat) (N : Nat → Prop) (l : List Nat) (A : Option Addr) (cap : Nat) (w : World) (h : RK w bR N l A cap)
include h
theorem rDrop_no (k : Int) (hx : ∀ x : Nat, x ∈ l → (x : Int) ≠ k) (hl : l.length ≤ 1000) : Calls Try.prog 13 #[.pointer (some ⟨bR, 0, none⟩), .int .i64 k] w fun e w' => e = .returned (.bool false) ∧ w = w' := by
  have HP := Lib.hid (place_any bR N l A cap w h k hl)
  have HX := Lib.hid hx
  clear h hx
  go_enter Try.func13, Try.ntmps13
  go_wp2_with fail
  refine HP.out.mono ?_
  rintro e w1 ⟨z, rfl, rfl, hz⟩
  obtain rfl : z = -1 := by
    rcases hz with ⟨i, x, h1, h2, _⟩ | ⟨_, h2⟩
    · exact absurd h2 (HX.out x (List.mem_of_getElem? h1))
    · exact h2
  clear hz
  go_wp2
  go_ret
  exact ⟨rfl, rfl⟩
set_option maxRecDepth 100000 in
theorem rDrop_in (x : Nat) (hx : x ∈ l) (hnd : l.Nodup) (hl : l.length ≤ 500) (hN : ∀ b, N b → b < w.heap.size) : Calls Try.prog 13 #[.pointer (some ⟨bR, 0, none⟩), .int .i64 (x : Int)] w (RkT bR N (flt l x) (.bool true) w) := by
  have HP := Lib.hid (place_any bR N l A cap w h (x : Int) (by omega))
  obtain ⟨l1, l2, rfl⟩ := mem_cut hx
  rw [flt_cut hnd]
  have HAT := Lib.hid (fun z (hz : PlaceAt (l1 ++ x :: l2) (x : Int) z) => PlaceAt.at hnd hz)
  obtain ⟨i, hi⟩ : ∃ i, l1.length = i := ⟨_, rfl⟩
  obtain ⟨m, hm⟩ : ∃ m, l2.length = m := ⟨_, rfl⟩
  have hlen : (l1 ++ x :: l2).length = i + 1 + m := by simp; omega
  obtain ⟨g, rfl, _⟩ := h.elt (i := l1.length) (x := x) (by simp)
  have c0 := h.cell
  have hle := h.le
  have l0 := h.hd.loose 0
  have hb := h.hd.lt
  obtain ⟨h1, h2, h3⟩ := h.ap _ rfl
  simp only at h1 h2 h3
  rw [hlen] at c0 hle hl
  have HI := Lib.hid (show NatsAt w (some ⟨g, 0, none⟩) (l1 ++ x :: l2) from NatsAt.of_ints h.at_)
  have H1 := Lib.hid (show ∀ u, Below w.heap.size w u → NatsAt u (some ⟨g, 0, none⟩) l1 from fun u hu h0 => by
    obtain ⟨b, off, e, hb', hc⟩ := HI.out (by simp; omega)
    exact ⟨b, off, e, Nat.lt_of_lt_of_le hb' hu.size, fun j y hy => (hu.cell (p := ⟨b, off + j, none⟩) hb').trans (hc j y (by rw [List.getElem?_append_left (List.getElem?_eq_some_iff.1 hy).1, hy]))⟩)
  have H2 := Lib.hid (show ∀ u, Below w.heap.size w u → NatsAt u (some ⟨g, i + 1, none⟩) l2 from fun u hu h0 => by
    obtain ⟨b, off, e, hb', hc⟩ := HI.out (by simp; omega)
    cases e
    refine ⟨g, i + 1, rfl, Nat.lt_of_lt_of_le hb' hu.size, fun j y hy => (hu.cell (p := ⟨g, i + 1 + j, none⟩) hb').trans ?_⟩
    have := hc (i + 1 + j) y (by rw [List.getElem?_append_right (by omega), show i + 1 + j - l1.length = j + 1 by omega, List.getElem?_cons_succ, hy])
    rwa [Nat.zero_add] at this)
  have HNB := Lib.hid h.nb
  have HC0 := Lib.hid c0
  have HL0 := Lib.hid l0
  have HNN := Lib.hid hN
  have H0 := Lib.hid (show (w.alloc (.cells #[] 3)).ownsRow w.heap.size 3 1 (.slice (some ⟨w.heap.size, 0, none⟩) 0 0) 0 (idsV []) from Has.owns (rest := []) (Has.made w 3 []) rfl rfl (by decide) (Nat.le_refl _))
  have B0 := Lib.hid (show Below w.heap.size w (w.alloc (.cells #[] 3)) from box_below _)
  have HD := Lib.hid h.hd
  have HL1 := Lib.hid hi
  have HL2 := Lib.hid hm
  clear h hx hnd hi hm hlen hN
  go_enter Try.func13, Try.ntmps13
  go_wp2_with fail
  refine HP.out.mono ?_
  rintro e w1 ⟨z, rfl, rfl, hz⟩
  obtain rfl := HAT.out z hz
  rw [HL1.out]
  clear hz HP HAT
  go_wp2_with (at_builtin; refine wpList_spreadN (w.alloc (.cells #[] 3)) w.heap.size w.heap.size 0 0 [] rfl rfl _ _ rfl (some ⟨g, 0, none⟩) i cap l1 HL1.out rfl rfl H0.out (H1.out _ B0.out) (by omega) B0.out.size ?_)
  intro g4 cap4 w4 hO4 hK4 hg4
  have hb4 : Below w.heap.size w w4 := B0.out.trans (hK4.below B0.out.size (fun k hk e => by omega))
  have q0 := (hb4.cell (p := ⟨bR, 0, none⟩) hb).trans c0
  have ql := (hb4.frozen (p := ⟨bR, 0, none⟩) hb).trans l0
  have qb : bR < w4.heap.size := Nat.lt_of_lt_of_le hb hb4.size
  have HO4 := Lib.hid (show w4.ownsRow w.heap.size 3 1 (.slice (some ⟨g4, 0, none⟩) i cap4) i (idsV l1) from by simpa using hO4)
  have HB4 := Lib.hid hb4
  clear hO4 hK4 hg4 hb4 c0 l0
  have HIF := Lib.hid (show NatsAt w4 (if cap = i + 1 then some ⟨g, 0, none⟩ else some ⟨g, i + 1, none⟩) l2 from by
    split
    · exact fun h0 => absurd h0 (by have := HL2.out; omega)
    · exact H2.out _ HB4.out)
  go_wp2_with (at_builtin; refine wpList_spreadN w4 w.heap.size g4 i cap4 l1 HL1.out rfl _ _ rfl (if cap = i + 1 then some ⟨g, 0, none⟩ else some ⟨g, i + 1, none⟩) m (cap - (i + 1)) l2 HL2.out rfl rfl HO4.out HIF.out (by omega) HB4.out.size ?_)
  all_goals
    intro g5 cap5 w5 hO5 hK5 hg5
    have hg4 := (own_g_lt HO4.out).2
    have hb5 : Below w.heap.size w w5 := HB4.out.trans (hK5.below HB4.out.size (fun k hk e => by omega))
    have R := Lib.hid (show RkT bR N (l1 ++ l2) (.bool true) w (.returned (.bool true)) (w5.setCell ⟨bR, 0, none⟩ (.slice (some ⟨g5, 0, none⟩) (i + m) cap5)) from by
      obtain ⟨r1, r2⟩ := rk_store HD.out hb5 hO5 (by simp [HL1.out, HL2.out]) HNN.out HNB.out
      exact ⟨rfl, ⟨_, _, r1⟩, r2⟩)
    have p0 := (hb5.cell (p := ⟨bR, 0, none⟩) hb).trans HC0.out
    have pl := (hb5.frozen (p := ⟨bR, 0, none⟩) hb).trans HL0.out
    have pb : bR < w5.heap.size := Nat.lt_of_lt_of_le hb hb5.size
    clear hO5 hK5 hg5 hb5 hg4
    go_wp2
    go_ret
    exact R.out
end
end Go.Proofs.Ytjkejlnelkckgaa
