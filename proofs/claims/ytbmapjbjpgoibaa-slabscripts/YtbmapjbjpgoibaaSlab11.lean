/- few, Op.of, Same; handles that are gone; what is live and free, counted. -/
import Derived.Test.YtbmapjbjpgoibaaSlabOps
namespace Go.Proofs.Ytbmapjbjpgoibaa
open Go.ChangeShapes Go.WideShapes Go.ChangeAt Go.RowKit
set_option linter.unusedVariables false

theorem Same_yes (A A2 : Option Addr) (len cap cap2 : Nat) (ns : List Nat) (w : World) (hl : len ≤ 1000) (hc : len ≤ cap) (hc2 : len ≤ cap2) (hw : Words w A len ns) (hw2 : Words w A2 len ns) :
    Calls Try.prog 20 #[.slice A len cap, .slice A2 len cap2] w fun e w' => e = .returned (.bool true) ∧ Below w.heap.size w w' := by
  have HW := Lib.hid hw
  have HW2 := Lib.hid hw2
  clear hw hw2
  go_enter Try.func20, Try.ntmps20
  go_wp2
  go_loopw [5] (fun i wr => ∃ j : Nat, j ≤ len ∧ i = .int .i64 j ∧ ∃ n, wr = w.drewN n) (fun i _ => len - (intOf i).toNat)
  case atStart => exact ⟨0, Nat.zero_le _, rfl, 0, rfl⟩
  case round =>
    obtain ⟨j, hj, rfl, n, rfl⟩ := hrel
    by_cases hlt : j < len
    · obtain ⟨h1, ha, h3⟩ := HW.out
      obtain ⟨b, off, rfl, hbl, hcell⟩ := h3 (by omega)
      obtain ⟨h4, h5, h6⟩ := HW2.out
      obtain ⟨b2, off2, rfl, hbl2, hcell2⟩ := h6 (by omega)
      have c0 := hcell j hlt
      have c1 := hcell2 j hlt
      generalize ns.getD j 0 = a at *
      clear hcell hcell2 h3 h6 h1 h4 ha h5
      go_wp2_with fail
      go_quiet (fail)
      go_wp2
      go_roundw
      case rel => exact ⟨j + 1, by omega, by go_num, _, rfl⟩
      case measure => simp [intOf]; omega
    · go_wp2
      go_ret
      exact ⟨rfl, below_drewN (Below.refl _ _) n⟩

/-- What few tells. -/
def FewTold (w : World) (A : Option Addr) (len : Nat) (e : Ending) (w' : World) : Prop :=
  ∃ r : Bool, e = .returned (.bool r) ∧ w = w' ∧ (r = true → len ≤ 60 ∧ ∀ i, i < len → ∀ b off, A = some ⟨b, off, none⟩ → ∀ o, OpAt w b (off + i * 4) o → o.len ≤ 40)
set_option maxRecDepth 100000 in
theorem few_any (A : Option Addr) (len cap : Nat) (w : World) (h : IsOps w A len cap) : Calls Try.prog 9 #[.slice A len cap] w (FewTold w A len) := by
  obtain ⟨h1, h2, h3⟩ := h
  have hm : len ≤ 9223372036854775807 := by unfold maxLen at h2; omega
  have H3 := Lib.hid h3
  clear h2 h3
  by_cases h60 : 60 < len
  · go_enter Try.func9, Try.ntmps9
    go_wp2
    go_ret
    exact ⟨false, rfl, rfl, fun h => by cases h⟩
  · have t1 : decide ((60 : Int) < (len : Int)) = false := by simp; omega
    go_enter Try.func9, Try.ntmps9
    go_wp2
    go_loop [3] (fun i => ∃ k : Nat, k ≤ len ∧ i = .int .i64 (k : Int) ∧ ∀ j, j < k → ∀ b off, A = some ⟨b, off, none⟩ → ∀ o, OpAt w b (off + j * 4) o → o.len ≤ 40) (fun i => len - (intOf i).toNat)
    case atStart => exact ⟨0, Nat.zero_le _, rfl, fun j hj => absurd hj (by omega)⟩
    case round =>
      obtain ⟨k, hk, rfl, hall⟩ := hrel
      have HA := Lib.hid hall
      clear hall
      by_cases hlt : k < len
      · obtain ⟨b, off, rfl, hb, hop⟩ := H3.out (by omega)
        obtain ⟨o, ho⟩ := hop k hlt
        have c3 := ho.c3
        have HO := Lib.hid ho
        have hol : o.len ≤ 9223372036854775807 := by
          rcases ho.ws with ⟨_, e, _⟩ | ⟨x, _, e1, e2, _⟩
          · omega
          · unfold maxLen at e2; omega
        clear hop ho
        by_cases h40 : 40 < o.len
        · have t2 : decide ((40 : Int) < (o.len : Int)) = true := by simp; omega
          go_wp2
          go_ret
          exact ⟨false, rfl, rfl, fun h => by cases h⟩
        · have t2 : decide ((40 : Int) < (o.len : Int)) = false := by simp; omega
          have R : Hid (∀ j, j < k + 1 → ∀ b' off', (some ⟨b, off, none⟩ : Option Addr) = some ⟨b', off', none⟩ → ∀ o, OpAt w b' (off' + j * 4) o → o.len ≤ 40) := fun j hj b' off' e o' ho' => by
            cases e
            by_cases e2 : j < k
            · exact HA.out j e2 b off rfl o' ho'
            · obtain rfl : j = k := by omega
              have q := ho'.c3
              rw [HO.out.c3] at q
              injection q with q
              injection q with q1 q2 q3
              omega
          clear h40
          go_wp2
          go_round
          case rel => exact ⟨k + 1, by omega, by go_num, R.out⟩
          case measure => simp [intOf]; omega
      · obtain rfl : k = len := by omega
        have R : Hid (FewTold w A k (.returned (.bool true)) w) := ⟨true, rfl, rfl, fun _ => ⟨by omega, HA.out⟩⟩
        go_wp2
        go_ret
        exact R.out

/-- What of tells: some handle. -/
def SomeInt (w : World) (e : Ending) (w' : World) : Prop := ∃ z : Int, e = .returned (.int .i64 z) ∧ Below w.heap.size w w'
set_option maxRecDepth 100000 in
theorem of_any (d h : Int) (own : Bool) (A L : Option Addr) (len cap lcap : Nat) (xs : List Int) (w : World) (hx : IntsAt w L lcap xs) (hl : xs.length ≤ 1000) :
    Calls Try.prog 13 #[.agg #[.int .i64 d, .int .i64 h, .bool own, .slice A len cap], .slice L xs.length lcap] w (SomeInt w) := by
  have HX := Lib.hid hx
  have hc := hx.1
  clear hx
  cases own with
  | false =>
    go_enter Try.func13, Try.ntmps13
    go_wp2
    go_ret
    exact ⟨h, rfl, (Below.refl _ _).alloc (Nat.le_refl _) _⟩
  | true =>
    by_cases h0 : 0 ≤ h ∧ h < xs.length
    · obtain ⟨h1, h2⟩ := h0
      obtain ⟨q, rfl⟩ := Int.eq_ofNat_of_zero_le h1
      obtain ⟨g, rfl, hcell⟩ := HX.out.2 (by omega)
      obtain ⟨r, hr⟩ : ∃ r : Nat, r = xs.length - 1 - q := ⟨_, rfl⟩
      have hr2 : (xs.length : Int) - 1 - (q : Int) = (r : Int) := by omega
      have hrl : r < xs.length := by omega
      have hg : g < w.heap.size := block_lt_of_cell (hcell r _ (List.getElem?_eq_getElem hrl))
      have d2 := hcell r _ (List.getElem?_eq_getElem hrl)
      generalize xs[r] = z at *
      generalize xs.length = n at *
      have t1 : decide (q < n) = true := by simp; omega
      clear hcell hr
      go_enter Try.func13, Try.ntmps13
      go_wp2
      go_ret
      exact ⟨z, rfl, (Below.refl _ _).alloc (Nat.le_refl _) _⟩
    · by_cases h1 : 0 ≤ h
      · have h2 : ¬ h < (xs.length : Int) := by omega
        generalize xs.length = n at *
        clear h0
        go_enter Try.func13, Try.ntmps13
        go_wp2
        go_ret
        exact ⟨h, rfl, (Below.refl _ _).alloc (Nat.le_refl _) _⟩
      · clear h0
        go_enter Try.func13, Try.ntmps13
        go_wp2
        go_ret
        exact ⟨h, rfl, (Below.refl _ _).alloc (Nat.le_refl _) _⟩

/-- A handle that is gone: its cell has a later generation. -/
def Gone (s : Sl) (h : Int) : Prop := ∃ (m : Nat) (c : SC), h = m ∧ s.cells[m % 64]? = some c ∧ m / 64 < c.gen
theorem Gone.none {s : Sl} {h : Int} (hg : Gone s h) : s.find h = none := by
  obtain ⟨m, c, rfl, hc, hlt⟩ := hg
  unfold Sl.find
  rw [if_neg (by omega), show ((m : Int) % 64).toNat = m % 64 by omega, hc]
  simp only
  rw [if_neg (fun h => by have := h.2; omega)]
theorem Gone.put {s : Sl} {h : Int} {i : Nat} {c c' : SC} {fr : List Nat} (hg : Gone s h) (hc : s.cells[i]? = some c) (hge : c.gen ≤ c'.gen) : Gone (s.put i c' fr) h := by
  obtain ⟨m, d, rfl, hd, hlt⟩ := hg
  have hi : i < s.cells.length := (List.getElem?_eq_some_iff.1 hc).1
  by_cases e : i = m % 64
  · subst e
    have : d = c := by rw [hc] at hd; injection hd with hd; exact hd.symm
    subst this
    exact ⟨m, c', rfl, by rw [getElem?_put hi, if_pos rfl], by omega⟩
  · exact ⟨m, d, rfl, by rw [getElem?_put hi, if_neg e]; exact hd, hlt⟩
theorem Gone.given {s : Sl} {h : Int} {i : Nat} {c : SC} {fr : List Nat} (e : s.find h = some i) (hc : s.cells[i]? = some c) : Gone (s.put i { c with taken := false, gen := c.gen + 1 } fr) h := by
  obtain ⟨m, d, rfl, hm, h64, hd, _, hg⟩ := Sl.find_some e
  have : d = c := by rw [hc] at hd; injection hd with hd; exact hd.symm
  subst this
  have hi : i < s.cells.length := (List.getElem?_eq_some_iff.1 hc).1
  have hmi : m % 64 = i := by omega
  exact ⟨m, _, rfl, by rw [hmi, getElem?_put hi, if_pos rfl], by show m / 64 < d.gen + 1; omega⟩

/-- The numbers of the cells that are taken, rising. -/
theorem taken_lt (s : Sl) (j : Nat) : ∀ p ∈ takenTo s j, p.1.1 < j := by
  induction j with
  | zero => intro p hp; simp [takenTo] at hp
  | succ j ih =>
    intro p hp
    cases h : s.cells[j]? with
    | none =>
      rw [takenTo] at hp
      split at hp
      · rename_i c' h'; rw [h] at h'; cases h'
      · have := ih p hp; omega
    | some c =>
      cases ht : c.taken with
      | true =>
        rw [takenTo_yes h ht] at hp
        rcases List.mem_append.1 hp with hp | hp
        · have := ih p hp; omega
        · rw [List.mem_singleton.1 hp]; exact Nat.lt_succ_self _
      | false => rw [takenTo_no h ht] at hp; have := ih p hp; omega
theorem taken_rise (s : Sl) (j : Nat) : (takenTo s j).Pairwise fun p q => p.1.1 < q.1.1 := by
  induction j with
  | zero => simp [takenTo]
  | succ j ih =>
    cases h : s.cells[j]? with
    | none =>
      rw [takenTo]
      split
      · rename_i c' h'; rw [h] at h'; cases h'
      · exact ih
    | some c =>
      cases ht : c.taken with
      | true =>
        rw [takenTo_yes h ht, List.pairwise_append]
        exact ⟨ih, by simp, fun a ha b hb => by rw [List.mem_singleton.1 hb]; exact taken_lt s j a ha⟩
      | false => rw [takenTo_no h ht]; exact ih
theorem hdl_mod {p : Nat × SC} (h : p.1 < 64) : hdl p % 64 = p.1 := by unfold hdl; omega
theorem live_apart {s : Sl} (hn : s.cells.length ≤ 64) : s.live.Pairwise fun a b => a % 64 ≠ b % 64 := by
  unfold Sl.live
  rw [List.pairwise_map]
  refine List.Pairwise.imp_of_mem (R := fun (p q : LC s) => p.1.1 < q.1.1) (fun {a b} ha hb hab => ?_) (taken_rise s _)
  have h1 := taken_lt s _ a ha
  have h2 := taken_lt s _ b hb
  rw [hdl_mod (by omega), hdl_mod (by omega)]
  omega
theorem filter_lt {l : List Nat} (hn : l.Nodup) (j : Nat) : (l.filter fun x => decide (x < j + 1)).length = (l.filter fun x => decide (x < j)).length + (if j ∈ l then 1 else 0) := by
  induction l with
  | nil => simp
  | cons a l ih =>
    obtain ⟨h1, h2⟩ := List.nodup_cons.1 hn
    have := ih h2
    by_cases e : a = j
    · subst e
      rw [if_neg h1] at this
      simp [this]
    · have hm : (j ∈ a :: l) ↔ j ∈ l := by simp [show ¬ j = a from fun x => e x.symm]
      simp only [hm, List.filter_cons]
      by_cases hlt : a < j
      · have h3 : a < j + 1 := by omega
        simp [hlt, h3]
        omega
      · have h3 : ¬ a < j + 1 := by omega
        simp [hlt, h3]
        exact this
theorem live_count {s : Sl} {G : Nat} (h : s.Ok G) : s.live.length + s.free.length = s.cells.length := by
  have key : ∀ j, j ≤ s.cells.length → (takenTo s j).length + (s.free.filter fun x => decide (x < j)).length = j := by
    intro j
    induction j with
    | zero => intro _; simp [takenTo]
    | succ j ih =>
      intro hj
      have hc : s.cells[j]? = some s.cells[j] := List.getElem?_eq_getElem (by omega)
      have hf := h.fr j _ hc
      have := ih (by omega)
      rw [filter_lt h.nd]
      cases ht : (s.cells[j]).taken with
      | true =>
        rw [takenTo_yes hc ht, if_neg (fun hm => by have := hf.1 hm; rw [ht] at this; cases this)]
        simp
        omega
      | false =>
        rw [takenTo_no hc ht, if_pos (hf.2 ht)]
        omega
  have := key _ (Nat.le_refl _)
  rw [List.filter_eq_self.2 (fun x hx => by simpa using h.lt x hx)] at this
  unfold Sl.live
  rw [List.length_map]
  exact this
end Go.Proofs.Ytbmapjbjpgoibaa
