/- Answers that are compared. -/
import Derived.Test.YtljllfopgpmekabAn1
import Derived.Test.YtljllfopgpmekabMem2
import Derived.Deep.QuietTactic
import Derived.BigQuiet
import Derived.Lib.Bytes
import Derived.WalkSmall
import Derived.Laws.StructEq
-- prune
namespace Go.Proofs.Ytljllfopgpmekab
open Go.ChangeShapes Go.WideShapes Go.ChangeAt Go.RowKit
set_option linter.unusedVariables false

theorem byt_inj {a b : ByteArray} (e : a.toList = b.toList) : a = b := by
  rw [Lib.toList_data, Lib.toList_data] at e
  apply ByteArray.ext
  exact Array.ext' e
theorem byt_ne {a b : ByteArray} (h : ¬ a = b) : (a.toList == b.toList) = false := by
  simp only [beq_eq_false_iff_ne, ne_eq]
  exact fun e => h (byt_inj e)
theorem td_same (t : Td) (u : World) : (Op.equalIn 10000 70 (.agg #[.int .i64 t.code, .bool t.al, .int .i64 t.rem, .int .i64 t.ret, .int .i64 t.res]) (.agg #[.int .i64 t.code, .bool t.al, .int .i64 t.rem, .int .i64 t.ret, .int .i64 t.res])).run Try.prog u = .ok true u := by
  go_simp
theorem td_ne {t t' : Td} (h : ¬ t = t') (u : World) : (Op.equalIn 10000 70 (.agg #[.int .i64 t.code, .bool t.al, .int .i64 t.rem, .int .i64 t.ret, .int .i64 t.res]) (.agg #[.int .i64 t'.code, .bool t'.al, .int .i64 t'.rem, .int .i64 t'.ret, .int .i64 t'.res])).run Try.prog u = .ok false u := by
  obtain ⟨a, b, c, d, e⟩ := t
  obtain ⟨a', b', c', d', e'⟩ := t'
  simp only [Td.mk.injEq] at h
  go_simp
  by_cases h1 : a = a' <;> by_cases h2 : b = b' <;> by_cases h3 : c = c' <;> by_cases h4 : d = d' <;> by_cases h5 : e = e' <;> simp_all
theorem nm_same (t : Nm) (u : World) : (Op.equalIn 10000 26 (.agg #[.int .i64 t.book, .string t.key]) (.agg #[.int .i64 t.book, .string t.key])).run Try.prog u = .ok true u := by
  go_simp
theorem nm_ne {t t' : Nm} (h : ¬ t = t') (u : World) : (Op.equalIn 10000 26 (.agg #[.int .i64 t.book, .string t.key]) (.agg #[.int .i64 t'.book, .string t'.key])).run Try.prog u = .ok false u := by
  obtain ⟨a, b⟩ := t
  obtain ⟨a', b'⟩ := t'
  simp only [Nm.mk.injEq] at h
  go_simp
  by_cases h1 : a = a'
  · by_cases h2 : b = b'
    · exact absurd ⟨h1, h2⟩ h
    · simp [h1]
      exact fun e => h2 (byt_inj e)
  · simp [h1]
theorem cellN {w wr : World} {m : Nat} {a : Addr} {v : Option Value} (hw : wr = w.drewN m) (h : w.cell? a = v) : wr.cell? a = v := by subst hw; exact h
/-- What a comparison tells. -/
def TellsB (p : Prop) (w : World) (e : Ending) (w' : World) : Prop := ∃ b : Bool, e = .returned (.bool b) ∧ (b = true ↔ p) ∧ ∃ m, w' = w.drewN m
theorem list_ext {α : Type} {l l' : List α} (hl : l.length = l'.length) (h : ∀ j, j < l.length → l[j]? = l'[j]?) : l = l' := by
  apply List.ext_getElem?
  intro j
  by_cases hj : j < l.length
  · exact h j hj
  · rw [List.getElem?_eq_none (by omega), List.getElem?_eq_none (by omega)]

set_option maxRecDepth 100000 in
theorem eqTold_any (A A' : Option Addr) (c c' : Nat) (l l' : List Td) (w : World) (h1 : SeqAt tdC 5 w A l) (h2 : SeqAt tdC 5 w A' l') (hc : l.length ≤ 1000) (hc' : l'.length ≤ maxLen) :
    Calls Try.prog 62 #[.slice A l.length c, .slice A' l'.length c'] w (TellsB (l = l') w) := by
  by_cases hlen : l.length = l'.length
  · have HL := Lib.hid hlen
    have hn : ∃ n, n = l.length := ⟨_, rfl⟩
    obtain ⟨n, hn⟩ := hn
    have hn' : n = l'.length := hn.trans hlen
    rw [← hn, ← hn']
    have HN := Lib.hid (And.intro hn hn')
    have hn1 : n ≤ 1000 := by omega
    clear hlen hn hn' hc hc'
    go_enter Try.func62, Try.ntmps62
    go_wp2_with fail
    go_loopw [13] (fun i wr => ∃ (k m : Nat), k ≤ n ∧ i = .int .i64 k ∧ wr = w.drewN m ∧ ∀ j, j < k → l[j]? = l'[j]?) (fun i _ => n - (intOf i).toNat)
    case atStart => exact ⟨0, 0, Nat.zero_le _, rfl, rfl, fun j hj => absurd hj (Nat.not_lt_zero _)⟩
    case round =>
      obtain ⟨i, m, hi, rfl, hw, hall⟩ := hrel
      have HW := Lib.hid hw
      have HA := Lib.hid hall
      clear hall hw
      by_cases hlt : i < n
      · have hil : i < l.length := by rw [← HN.out.1]; exact hlt
        have hil' : i < l'.length := by rw [← HN.out.2]; exact hlt
        obtain ⟨b, off, e1, hb, hx⟩ := h1.get hil
        obtain ⟨b2, off2, e2, hb2, hy⟩ := h2.get hil'
        obtain ⟨x, ex⟩ : ∃ x, x = l[i] := ⟨_, rfl⟩
        obtain ⟨y, ey⟩ : ∃ y, y = l'[i] := ⟨_, rfl⟩
        rw [← ex] at hx
        rw [← ey] at hy
        have EX := Lib.hid (show l[i]? = some x by rw [ex]; exact List.getElem?_eq_getElem hil)
        have EY := Lib.hid (show l'[i]? = some y by rw [ey]; exact List.getElem?_eq_getElem hil')
        subst e1 e2
        have x0 := cellN HW.out (hx 0 _ rfl)
        have x1 := cellN HW.out (hx 1 _ rfl)
        have x2 := cellN HW.out (hx 2 _ rfl)
        have x3 := cellN HW.out (hx 3 _ rfl)
        have x4 := cellN HW.out (hx 4 _ rfl)
        have y0 := cellN HW.out (hy 0 _ rfl)
        have y1 := cellN HW.out (hy 1 _ rfl)
        have y2 := cellN HW.out (hy 2 _ rfl)
        have y3 := cellN HW.out (hy 3 _ rfl)
        have y4 := cellN HW.out (hy 4 _ rfl)
        simp at x0 y0 x1 y1 x2 y2 x3 y3 x4 y4
        clear hx hy ex ey h1 h2 hil hil'
        by_cases hxy : x = y
        · subst hxy
          have hq := td_same x
          go_wp2_with fail
          go_quiet (fail)
          have NQ := Lib.hid (show ∃ m', wr.drewN nq = w.drewN m' from ⟨m + nq, by rw [HW.out, World.drewN_drewN]⟩)
          go_wp2_with fail
          go_roundw
          case rel =>
            obtain ⟨m', hm'⟩ := NQ.out
            refine ⟨i + 1, m', by omega, by go_num, hm', fun j hj => ?_⟩
            by_cases e : j = i
            · rw [e, EX.out, EY.out]
            · exact HA.out j (by omega)
          case measure => simp [intOf]; omega
        · have hq := td_ne hxy
          have R := Lib.hid (show ¬ l = l' from fun e => by
            have := EX.out
            rw [e, EY.out] at this
            exact hxy (Option.some.inj this).symm)
          clear hxy
          go_wp2_with fail
          go_quiet (fail)
          have NQ := Lib.hid (show ∃ m', wr.drewN nq = w.drewN m' from ⟨m + nq, by rw [HW.out, World.drewN_drewN]⟩)
          go_wp2
          go_ret
          exact ⟨false, rfl, ⟨fun e => (by cases e), fun e => absurd e R.out⟩, NQ.out⟩
      · obtain rfl : i = n := by omega
        have R := Lib.hid (show l = l' from list_ext HL.out (fun j hj => HA.out j (by rw [HN.out.1]; exact hj)))
        go_wp2
        go_ret
        exact ⟨true, rfl, ⟨fun _ => R.out, fun _ => rfl⟩, m, HW.out⟩
  · have R := Lib.hid (show ¬ l = l' from fun e => hlen (by rw [e]))
    have hd : ((l.length : Int) != (l'.length : Int)) = true := by simp; omega
    unfold maxLen at hc'
    clear hlen
    go_enter Try.func62, Try.ntmps62
    go_wp2
    go_ret
    exact ⟨false, rfl, ⟨fun e => (by cases e), fun e => absurd e R.out⟩, 0, rfl⟩

set_option maxRecDepth 100000 in
theorem eqName_any (A A' : Option Addr) (c c' : Nat) (l l' : List Nm) (w : World) (h1 : SeqAt nmC 2 w A l) (h2 : SeqAt nmC 2 w A' l') (hc : l.length ≤ 1000) (hc' : l'.length ≤ maxLen) :
    Calls Try.prog 63 #[.slice A l.length c, .slice A' l'.length c'] w (TellsB (l = l') w) := by
  by_cases hlen : l.length = l'.length
  · have HL := Lib.hid hlen
    have hn : ∃ n, n = l.length := ⟨_, rfl⟩
    obtain ⟨n, hn⟩ := hn
    have hn' : n = l'.length := hn.trans hlen
    rw [← hn, ← hn']
    have HN := Lib.hid (And.intro hn hn')
    have hn1 : n ≤ 1000 := by omega
    clear hlen hn hn' hc hc'
    go_enter Try.func63, Try.ntmps63
    go_wp2_with fail
    go_loopw [13] (fun i wr => ∃ (k m : Nat), k ≤ n ∧ i = .int .i64 k ∧ wr = w.drewN m ∧ ∀ j, j < k → l[j]? = l'[j]?) (fun i _ => n - (intOf i).toNat)
    case atStart => exact ⟨0, 0, Nat.zero_le _, rfl, rfl, fun j hj => absurd hj (Nat.not_lt_zero _)⟩
    case round =>
      obtain ⟨i, m, hi, rfl, hw, hall⟩ := hrel
      have HW := Lib.hid hw
      have HA := Lib.hid hall
      clear hall hw
      by_cases hlt : i < n
      · have hil : i < l.length := by rw [← HN.out.1]; exact hlt
        have hil' : i < l'.length := by rw [← HN.out.2]; exact hlt
        obtain ⟨b, off, e1, hb, hx⟩ := h1.get hil
        obtain ⟨b2, off2, e2, hb2, hy⟩ := h2.get hil'
        obtain ⟨x, ex⟩ : ∃ x, x = l[i] := ⟨_, rfl⟩
        obtain ⟨y, ey⟩ : ∃ y, y = l'[i] := ⟨_, rfl⟩
        rw [← ex] at hx
        rw [← ey] at hy
        have EX := Lib.hid (show l[i]? = some x by rw [ex]; exact List.getElem?_eq_getElem hil)
        have EY := Lib.hid (show l'[i]? = some y by rw [ey]; exact List.getElem?_eq_getElem hil')
        subst e1 e2
        have x0 := cellN HW.out (hx 0 _ rfl)
        have x1 := cellN HW.out (hx 1 _ rfl)
        have y0 := cellN HW.out (hy 0 _ rfl)
        have y1 := cellN HW.out (hy 1 _ rfl)
        simp at x0 y0 x1 y1
        clear hx hy ex ey h1 h2 hil hil'
        by_cases hxy : x = y
        · subst hxy
          have hq := nm_same x
          go_wp2_with fail
          go_quiet (fail)
          have NQ := Lib.hid (show ∃ m', wr.drewN nq = w.drewN m' from ⟨m + nq, by rw [HW.out, World.drewN_drewN]⟩)
          go_wp2_with fail
          go_roundw
          case rel =>
            obtain ⟨m', hm'⟩ := NQ.out
            refine ⟨i + 1, m', by omega, by go_num, hm', fun j hj => ?_⟩
            by_cases e : j = i
            · rw [e, EX.out, EY.out]
            · exact HA.out j (by omega)
          case measure => simp [intOf]; omega
        · have hq := nm_ne hxy
          have R := Lib.hid (show ¬ l = l' from fun e => by
            have := EX.out
            rw [e, EY.out] at this
            exact hxy (Option.some.inj this).symm)
          clear hxy
          go_wp2_with fail
          go_quiet (fail)
          have NQ := Lib.hid (show ∃ m', wr.drewN nq = w.drewN m' from ⟨m + nq, by rw [HW.out, World.drewN_drewN]⟩)
          go_wp2
          go_ret
          exact ⟨false, rfl, ⟨fun e => (by cases e), fun e => absurd e R.out⟩, NQ.out⟩
      · obtain rfl : i = n := by omega
        have R := Lib.hid (show l = l' from list_ext HL.out (fun j hj => HA.out j (by rw [HN.out.1]; exact hj)))
        go_wp2
        go_ret
        exact ⟨true, rfl, ⟨fun _ => R.out, fun _ => rfl⟩, m, HW.out⟩
  · have R := Lib.hid (show ¬ l = l' from fun e => hlen (by rw [e]))
    have hd : ((l.length : Int) != (l'.length : Int)) = true := by simp; omega
    unfold maxLen at hc'
    clear hlen
    go_enter Try.func63, Try.ntmps63
    go_wp2
    go_ret
    exact ⟨false, rfl, ⟨fun e => (by cases e), fun e => absurd e R.out⟩, 0, rfl⟩

end Go.Proofs.Ytljllfopgpmekab
