/- The document's own wheel: Next, Where, Empty and Drop. -/
import Derived.Test.YtknehglahdkafaaDoorWref0
namespace Go.Proofs.YtknehglahdkafaaDoor
open Go.ChangeShapes Go.WideShapes Go.ChangeAt Go.RowKit
set_option linter.unusedVariables false

theorem NextAt.one {R : Nat → List Nat} {t : Nat} {a b c d : Value} (h : NextAt R t a b) (k : NextAt R t c d) : a = c ∧ b = d := by
  rcases h with ⟨i, h1, h2, h3, h4, rfl, rfl⟩ | ⟨h1, rfl, rfl⟩
  · rcases k with ⟨j, k1, k2, k3, k4, rfl, rfl⟩ | ⟨k1, rfl, rfl⟩
    · have : i = j := by
        rcases Nat.lt_trichotomy i j with q | q | q
        · exact absurd (k4 i h1 q) h3
        · exact q
        · exact absurd (h4 j k1 q) k3
      subst this; exact ⟨rfl, rfl⟩
    · exact absurd (k1 i h1 h2) h3
  · rcases k with ⟨j, k1, k2, k3, k4, rfl, rfl⟩ | ⟨k1, rfl, rfl⟩
    · exact absurd (h1 j k1 k2) k3
    · exact ⟨rfl, rfl⟩
/-- What Where tells. -/
def WhereAt (R : Nat → List Nat) (k : Int) (a b : Value) : Prop :=
  (∃ i x : Nat, i < 64 ∧ x ∈ R i ∧ (x : Int) = k ∧ a = .int .i64 (i : Int) ∧ b = .bool true) ∨ ((∀ i, i < 64 → ∀ x : Nat, x ∈ R i → (x : Int) ≠ k) ∧ a = .int .i64 0 ∧ b = .bool false)
theorem WhereAt.one {R : Nat → List Nat} {k : Int} {a b c d : Value} (hap : ∀ i j x, i < 64 → j < 64 → x ∈ R i → x ∈ R j → i = j) (h : WhereAt R k a b) (q : WhereAt R k c d) : a = c ∧ b = d := by
  rcases h with ⟨i, x, h1, h2, h3, rfl, rfl⟩ | ⟨h1, rfl, rfl⟩
  · rcases q with ⟨j, y, k1, k2, k3, rfl, rfl⟩ | ⟨k1, rfl, rfl⟩
    · have hxy : x = y := by omega
      subst hxy
      have := hap i j x h1 k1 h2 k2
      subst this; exact ⟨rfl, rfl⟩
    · exact absurd h3 (k1 i h1 x h2)
  · rcases q with ⟨j, y, k1, k2, k3, rfl, rfl⟩ | ⟨k1, rfl, rfl⟩
    · exact absurd k3 (h1 j k1 y k2)
    · exact ⟨rfl, rfl⟩
section
variable (bR : Nat) (N : Nat → Prop) (R : Nat → List Nat) (vs : List Value) (w : World) (h : RW w bR N R vs)
include h
set_option maxRecDepth 100000 in
theorem rWhere_any (k : Int) : Calls Tryd.prog 24 #[.pointer (some ⟨bR, 0, none⟩), .int .i64 k] w fun e w' => ∃ a b, e = .returned (.tuple #[a, b]) ∧ w = w' ∧ WhereAt R k a b := by
  have H := Lib.hid h
  clear h
  go_enter Tryd.func24, Tryd.ntmps24
  go_wp2
  go_loop [6] (fun s => ∃ t : Nat, t ≤ 64 ∧ s = .int .i64 (t : Int) ∧ ∀ i, i < t → ∀ x : Nat, x ∈ R i → (x : Int) ≠ k) (fun s => 64 - (intOf s).toNat)
  case atStart => exact ⟨0, by omega, rfl, fun i hi => absurd hi (by omega)⟩
  case round =>
    obtain ⟨t, ht, rfl, hno⟩ := hrel
    have HNO := Lib.hid hno
    clear hno
    by_cases hlt : t < 64
    · obtain ⟨A, cap, d0, hc, hI⟩ := H.out.get hlt
      have HI := Lib.hid hI
      have hl := H.out.len hlt
      clear hI
      obtain ⟨n, hn⟩ : ∃ n, (R t).length = n := ⟨_, rfl⟩
      have HN := Lib.hid hn
      rw [hn] at d0 hc hl
      clear hn
      go_wp2_with fail
      go_loop [7] (fun i => ∃ q : Nat, q ≤ n ∧ i = .int .i64 (q : Int) ∧ ∀ p x : Nat, p < q → (R t)[p]? = some x → (x : Int) ≠ k) (fun i => n - (intOf i).toNat)
      case atStart => exact ⟨0, by omega, rfl, fun p x hp => absurd hp (by omega)⟩
      case round =>
        obtain ⟨q, hq, rfl, hno⟩ := hrel
        have HNQ := Lib.hid hno
        clear hno
        by_cases hql : q < n
        · obtain ⟨x, hx⟩ : ∃ x, (R t)[q]? = some x := ⟨_, List.getElem?_eq_getElem (by rw [HN.out]; exact hql)⟩
          obtain ⟨g, rfl, hcell⟩ := HI.out.2 (by rw [List.length_map, HN.out]; omega)
          have d1 := hcell q (x : Int) (by rw [List.getElem?_map, hx]; rfl)
          have HX := Lib.hid hx
          clear hcell hx
          by_cases e : (x : Int) = k
          · have R1 := Lib.hid (show WhereAt R k (.int .i64 (t : Int)) (.bool true) from .inl ⟨t, x, hlt, List.mem_of_getElem? HX.out, e, rfl, rfl⟩)
            rw [e] at d1
            clear e
            go_wp2
            go_ret2
            exact ⟨_, _, rfl, rfl, R1.out⟩
          · have t1 : ((x : Int) == k) = false := by simp [e]
            have HE := Lib.hid e
            clear e
            go_wp2
            go_round
            case rel =>
              refine ⟨q + 1, by omega, by go_num, fun p y hp hy => ?_⟩
              by_cases e2 : p = q
              · subst e2
                rw [HX.out] at hy
                injection hy with hy
                subst hy
                exact HE.out
              · exact HNQ.out p y (by omega) hy
            case measure => simp [intOf]; omega
        · have HR := Lib.hid (show ∀ i, i < t + 1 → ∀ x : Nat, x ∈ R i → (x : Int) ≠ k from fun i hi x hx => by
            by_cases e : i = t
            · subst e
              obtain ⟨p, hp⟩ := List.getElem?_of_mem hx
              have := (List.getElem?_eq_some_iff.1 hp).1
              exact HNQ.out p x (by rw [HN.out] at this; omega) hp
            · exact HNO.out i (by omega) x hx)
          go_wp2
          go_round
          case rel => exact ⟨t + 1, by omega, by go_num, HR.out⟩
          case measure => simp [intOf]; omega
    · have R1 := Lib.hid (show WhereAt R k (.int .i64 0) (.bool false) from .inr ⟨fun i hi => HNO.out i (by omega), rfl, rfl⟩)
      go_wp2
      go_ret2
      exact ⟨_, _, rfl, rfl, R1.out⟩
set_option maxRecDepth 100000 in
theorem rNext_any (k : Int) : Calls Tryd.prog 27 #[.pointer (some ⟨bR, 0, none⟩), .int .i64 k] w fun e w' => ∃ a b, e = .returned (.tuple #[a, b]) ∧ w = w' ∧ NextAt R k.toNat a b := by
  have H := Lib.hid h
  clear h
  obtain ⟨f, hf⟩ : ∃ f, k.toNat = f := ⟨_, rfl⟩
  have hmax : max k 0 = (f : Int) := by omega
  have hmax2 : (if k < 0 then (0 : Int) else k) = (f : Int) := by split <;> omega
  rw [hf]
  go_enter Tryd.func27, Tryd.ntmps27
  go_wp2
  clear hmax hmax2 hf
  go_loop [6] (fun s => ∃ t : Nat, f ≤ t ∧ s = .int .i64 (t : Int) ∧ ∀ j, f ≤ j → j < t → j < 64 → R j = []) (fun s => 64 - (intOf s).toNat)
  case atStart => exact ⟨f, Nat.le_refl _, rfl, fun j h1 h2 => absurd h1 (by omega)⟩
  case round =>
    obtain ⟨t, ht, rfl, hno⟩ := hrel
    have HNO := Lib.hid hno
    clear hno
    by_cases hlt : t < 64
    · obtain ⟨A, cap, d0, hc, _⟩ := H.out.get hlt
      have hl := H.out.len hlt
      by_cases hz : R t = []
      · have HZ := Lib.hid hz
        rw [hz] at d0
        simp at d0
        clear hz
        go_wp2
        go_round
        case rel =>
          refine ⟨t + 1, by omega, by go_num, fun j h1 h2 h3 => ?_⟩
          by_cases e : j = t
          · subst e; exact HZ.out
          · exact HNO.out j h1 (by omega) h3
        case measure => simp [intOf]; omega
      · have R1 := Lib.hid (show NextAt R f (.int .i64 (t : Int)) (.bool true) from .inl ⟨t, ht, hlt, hz, fun j h1 h2 => HNO.out j h1 h2 (by omega), rfl, rfl⟩)
        have hz2 := len_nz hz
        clear hz
        generalize (R t).length = n at *
        go_wp2
        go_ret2
        exact ⟨_, _, rfl, rfl, R1.out⟩
    · have R1 := Lib.hid (show NextAt R f (.int .i64 0) (.bool false) from .inr ⟨fun j h1 h2 => HNO.out j h1 (by omega) h2, rfl, rfl⟩)
      go_wp2
      go_ret2
      exact ⟨_, _, rfl, rfl, R1.out⟩
set_option maxRecDepth 100000 in
theorem rEmpty_in (i : Nat) (hi : i < 64) : Calls Tryd.prog 26 #[.pointer (some ⟨bR, 0, none⟩), .int .i64 (i : Int)] w fun e w' => ∃ A cap vs', e = .returned (.slice A (R i).length cap) ∧ IntsAt w' A cap ((R i).map fun (x : Nat) => (x : Int)) ∧ RW w' bR N (upd R i []) vs' ∧ Kept (fun b => b = bR) w w' ∧ w'.heap.size = w.heap.size ∧ ∀ a, A = some a → ¬ N a.block := by
  have HR := Lib.hid (rRow_in bR N R vs w h i hi)
  have H := Lib.hid h
  obtain ⟨A0, cap0, q1, _, _⟩ := h.at_ i hi
  have d0 := h.ar.cell i
  rw [q1] at d0
  have l0 := h.ar.loose i
  have hb := h.ar.lt
  have hl := h.len hi
  clear h q1
  obtain ⟨n, hn⟩ : ∃ n, (R i).length = n := ⟨_, rfl⟩
  have HN := Lib.hid hn
  rw [hn] at HR d0 hl ⊢
  clear hn
  go_enter Tryd.func26, Tryd.ntmps26
  go_wp2_with fail
  refine HR.out.mono ?_
  rintro e w1 ⟨A, cap, rfl, rfl, hI, hA⟩
  have HI := Lib.hid hI
  have HA := Lib.hid hA
  clear hI hA HR
  by_cases h0 : n = 0
  · subst h0
    have R1 := Lib.hid (show RW w bR N (upd R i []) vs from H.out.congr (fun j hj => by
      by_cases e : j = i
      · subst e; rw [upd_same]; exact List.length_eq_zero_iff.1 HN.out
      · rw [upd_other R _ e]))
    go_wp2
    go_ret
    exact ⟨A, cap, vs, rfl, HI.out, R1.out, Kept.refl _ _, rfl, fun a e => (HA.out a e).1⟩
  · have h1 : 0 < n := by omega
    have hk := Lib.hid (show Kept (fun b => b = bR) w (w.setCell ⟨bR, i, none⟩ (.slice none 0 0)) from (Kept.refl (fun b => b = bR) w).setCell (p := ⟨bR, i, none⟩) (.inl rfl) _)
    have R1 := Lib.hid (H.out.set (l := []) (A := none) (cap := 0) hi rfl ⟨Nat.zero_le _, fun h => by simp at h⟩ (fun a e => by cases e) (by have := tot_upd R i [] 64 hi; simp at this; have := H.out.le; omega))
    clear h0
    go_wp2
    go_ret
    exact ⟨A, cap, _, rfl, HI.out.kept hk.out (fun a e => (HA.out a e).2.1), R1.out, hk.out, by simp [World.setCell], fun a e => (HA.out a e).1⟩
omit h in
theorem rEmpty_out (k : Int) (hk : ¬ (0 ≤ k ∧ k < 64)) : Calls Tryd.prog 26 #[.pointer (some ⟨bR, 0, none⟩), .int .i64 k] w fun e w' => e = .returned (.slice none 0 0) ∧ w = w' := by
  have HR := Lib.hid (rRow_out bR w k hk)
  clear hk
  go_enter Tryd.func26, Tryd.ntmps26
  go_wp2_with fail
  refine HR.out.mono ?_
  rintro e w1 ⟨rfl, rfl⟩
  go_wp2
  go_ret
  exact ⟨rfl, rfl⟩
end
end Go.Proofs.YtknehglahdkafaaDoor
