/- The document's own Recent: Touch, Oldest, Newer. -/
import Derived.Test.YtjkejlnelkckgaaRcX
namespace Go.Proofs.Ytjkejlnelkckgaa
open Go.ChangeShapes Go.WideShapes Go.ChangeAt Go.RowKit
set_option linter.unusedVariables false

/-- 'append(s, x)', x laid in a block of its own: as a step of the walk. -/
theorem wpList_row1N (u : World) (B g m cap hb : Nat) {ops : Array Oper} {rest : List Oper} {o : Oper} {a : Act} {Q : Exit → Act → World → Prop} (hgd : o.guard = none) (s x : Operand)
    (ho : o.op = .call { callee := .builtin .append, args := #[s, x], argTypes := #[26, 26] }) (l : List Nat) (y : Nat)
    (hs : a.eval s = .slice (some ⟨g, 0, none⟩) m cap) (hx : a.eval x = .slice (some ⟨hb, 0, none⟩) 1 1) (hO : u.ownsRow B 3 1 (.slice (some ⟨g, 0, none⟩) m cap) m (idsV l)) (hc : u.cell? ⟨hb, 0, none⟩ = some (.int .i64 (y : Int))) (hm : m ≤ 1000) (hB : B ≤ u.heap.size)
    (h : ∀ g' cap' w', w'.ownsRow B 3 1 (.slice (some ⟨g', 0, none⟩) (m + 1) cap') (m + 1) (idsV (l ++ [y])) → Kept (fun b => b = g) u w' → (g' = g ∨ u.heap.size ≤ g') → g' < w'.heap.size → wpList Try.prog ops Q rest (a.put o.dst (.slice (some ⟨g', 0, none⟩) (m + 1) cap')) w') :
    wpList Try.prog ops Q (o :: rest) a u := by
  refine wpList_plain hgd fun K hK => ?_
  have h1 := step_row1 (ops := ops) (E := True) (K := K) (Q := Q) u B g m cap hb hgd s x ho l y hs hx hO hc hm hB (fun g cap w' q1 q2 q3 q4 => hK _ _ (h g cap w' q1 q2 q3 q4))
  rw [if_pos (by simp [Region.wanted, hgd])] at h1
  exact h1
section
variable (bR : Nat) (N : Nat → Prop) (l : List Nat) (A : Option Addr) (cap : Nat) (w : World) (h : RK w bR N l A cap)
include h
theorem rDrop_any (x : Nat) (hnd : l.Nodup) (hl : l.length ≤ 500) (hN : ∀ b, N b → b < w.heap.size) (r : Bool) (hr : r = true ↔ x ∈ l) : Calls Try.prog 13 #[.pointer (some ⟨bR, 0, none⟩), .int .i64 (x : Int)] w (RkT bR N (flt l x) (.bool r) w) := by
  by_cases hm : x ∈ l
  · obtain rfl : r = true := hr.2 hm
    exact rDrop_in bR N l A cap w h x hm hnd hl hN
  · obtain rfl : r = false := by
      cases r with
      | false => rfl
      | true => exact absurd (hr.1 rfl) hm
    rw [flt_out hm]
    refine (rDrop_no bR N l A cap w h x (fun y hy e => hm (by have : y = x := by omega
                                                              rw [← this]; exact hy)) (by omega)).mono ?_
    rintro e w' ⟨rfl, rfl⟩
    exact ⟨rfl, ⟨_, _, h⟩, Kept.refl _ _⟩
omit h in
theorem rTouch_no (k : Int) (hk : k < 0) : Calls Try.prog 11 #[.pointer (some ⟨bR, 0, none⟩), .int .i64 k] w fun e w' => e = .returned (.int .i64 1) ∧ w = w' := by
  go_enter Try.func11, Try.ntmps11
  go_wp2
  go_ret
  exact ⟨rfl, rfl⟩
set_option maxRecDepth 100000 in
theorem rTouch_yes (x : Nat) (hnd : l.Nodup) (hl : l.length ≤ 500) (hN : ∀ b, N b → b < w.heap.size) : Calls Try.prog 11 #[.pointer (some ⟨bR, 0, none⟩), .int .i64 (x : Int)] w (RkT bR N (flt l x ++ [x]) (.int .i64 0) w) := by
  obtain ⟨r, hr⟩ : ∃ r : Bool, r = true ↔ x ∈ l := ⟨decide (x ∈ l), by simp⟩
  have HD := Lib.hid (rDrop_any bR N l A cap w h x hnd hl hN r hr)
  have hfl := flt_le l x
  have HNN := Lib.hid hN
  have t0 : ¬ (x : Int) < 0 := by omega
  clear h hr hnd hN
  generalize flt l x = m at *
  go_enter Try.func11, Try.ntmps11
  go_wp2_with fail
  refine HD.out.mono ?_
  rintro e w1 ⟨rfl, ⟨A1, cap1, hR⟩, hK⟩
  obtain ⟨n, hn⟩ : ∃ n, m.length = n := ⟨_, rfl⟩
  have c0 := hR.cell
  have l0 := hR.hd.loose 0
  have hb := hR.hd.lt
  have hle := hR.le
  have HN1 := Lib.hid (NatsAt.of_ints hR.at_)
  have HLN := Lib.hid hn
  have HH := Lib.hid hR.hd
  have HNB := Lib.hid hR.nb
  have HK := Lib.hid hK
  have HSZ := Lib.hid hK.size
  rw [hn] at c0 hle hfl
  have HC0 := Lib.hid c0
  have HL0 := Lib.hid l0
  have H0 := Lib.hid (show (w1.alloc (.cells #[] 3)).ownsRow w1.heap.size 3 1 (.slice (some ⟨w1.heap.size, 0, none⟩) 0 0) 0 (idsV []) from Has.owns (rest := []) (Has.made w1 3 []) rfl rfl (by decide) (Nat.le_refl _))
  have B0 := Lib.hid (show Below w1.heap.size w1 (w1.alloc (.cells #[] 3)) from box_below _)
  have HN0 := Lib.hid (show NatsAt (w1.alloc (.cells #[] 3)) A1 m from fun h0 => by
    obtain ⟨b, off, e, hb', hc⟩ := HN1.out h0
    exact ⟨b, off, e, Nat.lt_of_lt_of_le hb' B0.out.size, fun j y hy => (B0.out.cell (p := ⟨b, off + j, none⟩) hb').trans (hc j y hy)⟩)
  clear hR hK hn HD
  go_wp2_with (at_builtin; refine wpList_spreadN (w1.alloc (.cells #[] 3)) w1.heap.size w1.heap.size 0 0 [] rfl rfl _ _ rfl A1 n cap1 m HLN.out rfl rfl H0.out HN0.out (by omega) B0.out.size ?_)
  intro g4 cap4 w4 hO4 hK4 hg4
  have hb4 : Below w1.heap.size w1 w4 := B0.out.trans (hK4.below B0.out.size (fun k hk e => by omega))
  have hO4' : w4.ownsRow w1.heap.size 3 1 (.slice (some ⟨g4, 0, none⟩) n cap4) n (idsV m) := by simpa using hO4
  have HO4 := Lib.hid (hO4'.alloc (.cells #[.int .i64 (x : Int)] 3))
  have HC4 := Lib.hid (show (w4.alloc (.cells #[.int .i64 (x : Int)] 3)).cell? ⟨w4.heap.size, 0, none⟩ = some (.int .i64 (x : Int)) from (Has.made w4 3 [.int .i64 (x : Int)]).cell 0)
  have HB4 := Lib.hid (hb4.alloc hb4.size (.cells #[.int .i64 (x : Int)] 3))
  clear hO4 hO4' hK4 hg4 hb4 H0 B0 HN0 c0 l0
  go_wp2_with (at_builtin; refine wpList_row1N (w4.alloc (.cells #[.int .i64 (x : Int)] 3)) w1.heap.size g4 n cap4 w4.heap.size rfl _ _ rfl m x rfl rfl HO4.out HC4.out (by omega) HB4.out.size ?_)
  intro g5 cap5 w5 hO5 hK5 hg5 hl5
  have hg4 := (own_g_lt HO4.out).2
  have hb5 : Below w1.heap.size w1 w5 := HB4.out.trans (hK5.below HB4.out.size (fun k hk e => by omega))
  have R := Lib.hid (show RkT bR N (m ++ [x]) (.int .i64 0) w (.returned (.int .i64 0)) (w5.setCell ⟨bR, 0, none⟩ (.slice (some ⟨g5, 0, none⟩) (n + 1) cap5)) from by
    obtain ⟨r1, r2⟩ := rk_store HH.out hb5 hO5 (by simp [HLN.out]) (fun b hz => Nat.lt_of_lt_of_le (HNN.out b hz) HSZ.out) HNB.out
    exact ⟨rfl, ⟨_, _, r1⟩, HK.out.trans r2 (fun b e => .inl e)⟩)
  have p0 := (hb5.cell (p := ⟨bR, 0, none⟩) hb).trans HC0.out
  have pl := (hb5.frozen (p := ⟨bR, 0, none⟩) hb).trans HL0.out
  have pb : bR < w5.heap.size := Nat.lt_of_lt_of_le hb hb5.size
  clear hO5 hK5 hg5 hb5 hg4 hl5
  go_wp2
  go_ret
  exact R.out
theorem rOldest_any : Calls Try.prog 15 #[.pointer (some ⟨bR, 0, none⟩)] w fun e w' => e = .returned (.tuple #[.int .i64 ((l.head?.map fun (x : Nat) => (x : Int)).getD 0), .bool l.head?.isSome]) ∧ w = w' := by
  have c0 := h.cell
  have hb := h.hd.lt
  cases l with
  | nil =>
    clear h
    go_enter Try.func15, Try.ntmps15
    go_wp2
    go_ret2
    exact ⟨rfl, rfl⟩
  | cons x l =>
    obtain ⟨g, rfl, c1⟩ := h.elt (i := 0) (x := x) rfl
    have hle := h.le
    have hg := (h.ap _ rfl).2.2
    simp only at hg
    have e : (x :: l).length = l.length + 1 := rfl
    rw [e] at c0 hle
    show Calls _ _ _ _ fun e w' => e = .returned (.tuple #[.int .i64 (x : Int), .bool true]) ∧ w = w'
    generalize l.length = n at *
    clear h e
    go_enter Try.func15, Try.ntmps15
    go_wp2
    go_ret2
    exact ⟨rfl, rfl⟩
theorem rNewer_at (i x : Nat) (hx : l[i]? = some x) (hnd : l.Nodup) (hl : l.length ≤ 1000) : Calls Try.prog 17 #[.pointer (some ⟨bR, 0, none⟩), .int .i64 (x : Int)] w fun e w' => e = .returned (.tuple #[.int .i64 (((l[i + 1]?).map fun (x : Nat) => (x : Int)).getD 0), .bool (l[i + 1]?).isSome]) ∧ w = w' := by
  have HP := Lib.hid (place_any bR N l A cap w h (x : Int) hl)
  have HAT := Lib.hid (show ∀ z, PlaceAt l (x : Int) z → z = (i : Int) from fun z hz => by
    rcases hz with ⟨j, y, h1, h2, rfl, _⟩ | ⟨h1, _⟩
    · have : y = x := by omega
      subst this
      have := (List.getElem?_inj (List.getElem?_eq_some_iff.1 h1).1 hnd).1 (h1.trans hx.symm)
      rw [this]
    · exact absurd rfl (h1 x (List.mem_of_getElem? hx)))
  have c0 := h.cell
  have hb := h.hd.lt
  have hi := (List.getElem?_eq_some_iff.1 hx).1
  cases hn : l[i + 1]? with
  | none =>
    have hlen : l.length = i + 1 := by have := List.getElem?_eq_none_iff.1 hn; omega
    rw [hlen] at c0
    show Calls _ _ _ _ fun e w' => e = .returned (.tuple #[.int .i64 0, .bool false]) ∧ w = w'
    clear h hx hnd hn hlen
    go_enter Try.func17, Try.ntmps17
    go_wp2_with fail
    refine HP.out.mono ?_
    rintro e w1 ⟨z, rfl, rfl, hz⟩
    obtain rfl := HAT.out z hz
    clear hz HP HAT
    go_wp2
    go_ret2
    exact ⟨rfl, rfl⟩
  | some y =>
    obtain ⟨g, rfl, c1⟩ := h.elt hn
    have hle := h.le
    have hlt := (List.getElem?_eq_some_iff.1 hn).1
    have hg := (h.ap _ rfl).2.2
    simp only at hg
    show Calls _ _ _ _ fun e w' => e = .returned (.tuple #[.int .i64 (y : Int), .bool true]) ∧ w = w'
    clear h hx hnd hn
    generalize l.length = n at *
    have t1 : ((i : Int) == (n : Int) - 1) = false := by simp; omega
    go_enter Try.func17, Try.ntmps17
    go_wp2_with fail
    refine HP.out.mono ?_
    rintro e w1 ⟨z, rfl, rfl, hz⟩
    obtain rfl := HAT.out z hz
    clear hz HP HAT
    go_wp2
    go_ret2
    exact ⟨rfl, rfl⟩
theorem rNewer_no (k : Int) (hx : ∀ x : Nat, x ∈ l → (x : Int) ≠ k) (hl : l.length ≤ 1000) : Calls Try.prog 17 #[.pointer (some ⟨bR, 0, none⟩), .int .i64 k] w fun e w' => e = .returned (.tuple #[.int .i64 0, .bool false]) ∧ w = w' := by
  have HP := Lib.hid (place_any bR N l A cap w h k hl)
  have HX := Lib.hid hx
  have c0 := h.cell
  have hb := h.hd.lt
  generalize l.length = n at c0
  clear h hx
  go_enter Try.func17, Try.ntmps17
  go_wp2_with fail
  refine HP.out.mono ?_
  rintro e w1 ⟨z, rfl, rfl, hz⟩
  obtain rfl : z = -1 := by
    rcases hz with ⟨i, x, h1, h2, _⟩ | ⟨_, h2⟩
    · exact absurd h2 (HX.out x (List.mem_of_getElem? h1))
    · exact h2
  clear hz
  go_wp2
  go_ret2
  exact ⟨rfl, rfl⟩
end
end Go.Proofs.Ytjkejlnelkckgaa
