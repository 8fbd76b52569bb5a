/- The contracts of a table's find and Get. -/
import Derived.Test.YtgcdminjpdbchaaDoorRb0
namespace Go.Proofs.YtgcdminjpdbchaaDoor
open Go.ChangeShapes Go.WideShapes Go.ChangeAt Go.RowKit
set_option linter.unusedVariables false

/-- A table that lies there, and is well. -/
structure Tb (w : World) (bP bS seed bits n : Nat) (s : List RS) : Prop where
  is : IsTb w bP bS seed bits n s
  we : WellT (fun k => if k.size ≤ maxLen then hmF seed bits k else 0) n s
  sd : U seed
  b1 : 1 ≤ bits
  b8 : bits ≤ 8
  nn : n = 2 ^ bits
  ks : ∀ i, i < n → (atS s i).u = true → 1 ≤ (atS s i).k.size ∧ (atS s i).k.size ≤ 33
  vs : ∀ i, i < n → I64 (atS s i).v
noncomputable abbrev hmK (seed bits : Nat) (k : ByteArray) : Nat := if k.size ≤ maxLen then hmF seed bits k else 0
theorem hmK_of {seed bits : Nat} {k : ByteArray} (h : k.size ≤ maxLen) : hmK seed bits k = hmF seed bits k := if_pos h
section
variable {w w' : World} {bP bS seed bits n : Nat} {s : List RS}
theorem Tb.n256 (h : Tb w bP bS seed bits n s) : n ≤ 256 := by
  have h1 := h.b8
  rw [h.nn]
  exact Nat.le_trans (Nat.pow_le_pow_right (by decide) h1) (by decide)
theorem Tb.kept {F : Nat → Prop} (h : Tb w bP bS seed bits n s) (hk : Kept F w w') (h1 : ¬ F bP) (h2 : ¬ F bS) : Tb w' bP bS seed bits n s := { h with is := h.is.kept hk h1 h2 }
theorem Tb.below (h : Tb w bP bS seed bits n s) (hb : Below w.heap.size w w') : Tb w' bP bS seed bits n s := { h with is := h.is.below hb }
theorem Tb.drewN (h : Tb w bP bS seed bits n s) (m : Nat) : Tb (w.drewN m) bP bS seed bits n s := { h with is := h.is.drewN m }
end
/-- What find tells. -/
def FoundAt (n : Nat) (s : List RS) (k : ByteArray) (z : Int) (r : Bool) : Prop := (∃ i, i < n ∧ (atS s i).u = true ∧ (atS s i).k = k ∧ z = (i : Int) ∧ r = true) ∨ ((∀ i, i < n → (atS s i).u = true → (atS s i).k ≠ k) ∧ z = 0 ∧ r = false)
def FindTold (n : Nat) (s : List RS) (k : ByteArray) (w : World) (e : Ending) (w' : World) : Prop := ∃ z r, e = .returned (.tuple #[.int .i64 z, .bool r]) ∧ (∃ m, w' = w.drewN m) ∧ FoundAt n s k z r
theorem find_nil (k : ByteArray) (w : World) : Calls Tryd.prog 32 #[.pointer none, .string k] w fun e w' => e = .returned (.tuple #[.int .i64 0, .bool false]) ∧ w = w' := by
  go_enter Tryd.func32, Tryd.ntmps32
  go_wp2
  go_ret2
  exact ⟨rfl, rfl⟩
set_option maxRecDepth 100000 in
theorem find_any (bP bS seed bits n : Nat) (s : List RS) (k : ByteArray) (w : World) (h : Tb w bP bS seed bits n s) (ht : TabW w) (hk : k.size ≤ maxLen) :
    Calls Tryd.prog 32 #[.pointer (some ⟨bP, 0, none⟩), .string k] w (FindTold n s k w) := by
  have HM := Lib.hid (home_any bP bS seed bits n s k w h.is ht h.sd hk h.b1 h.b8)
  have hh : hmF seed bits k < n := hmF_lt h.sd h.b8 h.nn k hk
  have HE := Lib.hid (hmK_of (seed := seed) (bits := bits) hk)
  have H := Lib.hid h
  have hn := h.n256
  have p2 := h.is.p2
  have hb := h.is.lt
  clear h ht
  obtain ⟨H0, hH⟩ : ∃ H0, hmF seed bits k = H0 := ⟨_, rfl⟩
  rw [hH] at HM HE hh
  clear hH
  obtain ⟨hb1, hb2⟩ := hb
  go_enter Tryd.func32, Tryd.ntmps32
  go_wp2_with fail
  refine HM.out.mono ?_
  rintro e w1 ⟨rfl, m, rfl⟩
  have q2 : (w.drewN m).cell? ⟨bP, 2, none⟩ = some (.slice (some ⟨bS, 0, none⟩) n n) := p2
  have hbm1 : bP < (w.drewN m).heap.size := hb1
  have hbm2 : bS < (w.drewN m).heap.size := hb2
  clear HM
  go_wp2_with fail
  go_loop [6, 18] (fun a d => ∃ e : Nat, e ≤ n ∧ d = .int .i64 (e : Int) ∧ a = .int .i64 (wr_ n (H0 + e) : Nat) ∧ Hid (NotYet (hmK seed bits) n s k e)) (fun _ d => n - (intOf d).toNat)
  case atStart => exact ⟨0, Nat.zero_le _, rfl, by rw [wr_zero hh], Lib.hid (fun e' he => absurd he (by omega))⟩
  case round =>
    obtain ⟨e, he, rfl, rfl, HNY⟩ := hrel
    have hlt := wr_lt hh he
    have HD := (H.out.is.drewN m)
    have c0 := HD.c0 hlt
    have c1 := HD.c1 hlt
    have c3 := HD.c3 hlt
    have HDD := Lib.hid HD
    obtain ⟨P, hP⟩ : ∃ P, wr_ n (H0 + e) = P := ⟨_, rfl⟩
    have HPE := Lib.hid hP
    have HNX := Lib.hid (show e < n → nx n P = wr_ n (H0 + (e + 1)) from fun q => by rw [← hP]; exact nx_wr hh q)
    have HWE := Lib.hid (show P = wr_ n (hmK seed bits k + e) by rw [HE.out, hP])
    rw [hP] at c0 c1 c3 hlt ⊢
    clear hP HD
    by_cases hel : e < n
    · obtain ⟨xu, xk, xv, xd, hx⟩ : ∃ xu xk xv xd, atS s P = ⟨xu, xk, xv, xd⟩ := ⟨_, _, _, _, rfl⟩
      have HX := Lib.hid hx
      rw [hx] at c0 c1 c3
      clear hx
      simp only at c0 c1 c3
      cases xu with
      | false =>
        have R := Lib.hid (show FoundAt n s k 0 false from .inr ⟨H.out.we.stop HNY.out (.inl (by rw [← HWE.out, HX.out])), rfl, rfl⟩)
        go_wp2
        go_ret2
        exact ⟨0, false, rfl, ⟨m, rfl⟩, R.out⟩
      | true =>
        by_cases hd : xd < e
        · have R := Lib.hid (show FoundAt n s k 0 false from .inr ⟨H.out.we.stop HNY.out (.inr (by rw [← HWE.out, HX.out]; exact hd)), rfl, rfl⟩)
          go_wp2
          go_ret2
          exact ⟨0, false, rfl, ⟨m, rfl⟩, R.out⟩
        · by_cases hk2 : xk = k
          · have R := Lib.hid (show FoundAt n s k (P : Int) true from .inl ⟨P, hlt, by rw [HX.out], by rw [HX.out]; exact hk2, rfl, rfl⟩)
            rw [hk2] at c1
            clear hk2
            go_wp2
            go_ret2
            exact ⟨(P : Int), true, rfl, ⟨m, rfl⟩, R.out⟩
          · have t2 := str_ne hk2
            have HN2 := Lib.hid (show NotYet (hmK seed bits) n s k (e + 1) from fun e' he' => by
              by_cases q : e' = e
              · rw [q, ← HWE.out, HX.out]; exact ⟨rfl, Nat.le_of_not_lt hd, hk2⟩
              · exact HNY.out e' (by omega))
            have HC := Lib.hid (next_any bP bS seed bits n s P _ HDD.out hlt hn)
            have hnl := nx_lt hlt
            rw [HNX.out hel] at HC
            clear hk2 hnl
            go_wp2_with fail
            refine HC.out.mono ?_
            rintro e' w2 ⟨rfl, rfl⟩
            go_wp2
            go_round
            case rel => exact ⟨e + 1, by omega, by go_num, rfl, HN2⟩
            case measure => simp [intOf]; omega
    · obtain rfl : e = n := by omega
      have R := Lib.hid (show FoundAt e s k 0 false from .inr ⟨H.out.we.stop_n HNY.out, rfl, rfl⟩)
      go_wp2
      go_ret2
      exact ⟨0, false, rfl, ⟨m, rfl⟩, R.out⟩
theorem Get_nil (k : ByteArray) (w : World) : Calls Tryd.prog 25 #[.pointer none, .string k] w fun e w' => e = .returned (.tuple #[.int .i64 0, .bool false]) ∧ w = w' := by
  go_enter Tryd.func25, Tryd.ntmps25
  go_wp2_with fail
  refine (find_nil k w).mono ?_
  rintro e w1 ⟨rfl, rfl⟩
  go_wp2
  go_ret2
  exact ⟨rfl, rfl⟩
/-- What Get tells. -/
def GotAt (n : Nat) (s : List RS) (k : ByteArray) (z : Int) (r : Bool) : Prop := (HasK n s k z ∧ r = true) ∨ ((∀ v, ¬ HasK n s k v) ∧ z = 0 ∧ r = false)
def GetTold (n : Nat) (s : List RS) (k : ByteArray) (w : World) (e : Ending) (w' : World) : Prop := ∃ z r, e = .returned (.tuple #[.int .i64 z, .bool r]) ∧ (∃ m, w' = w.drewN m) ∧ GotAt n s k z r
theorem Get_any (bP bS seed bits n : Nat) (s : List RS) (k : ByteArray) (w : World) (h : Tb w bP bS seed bits n s) (ht : TabW w) (hk : k.size ≤ maxLen) :
    Calls Tryd.prog 25 #[.pointer (some ⟨bP, 0, none⟩), .string k] w (GetTold n s k w) := by
  have HF := Lib.hid (find_any bP bS seed bits n s k w h ht hk)
  have H := Lib.hid h
  have p2 := h.is.p2
  obtain ⟨hb1, hb2⟩ := h.is.lt
  clear h ht
  go_enter Tryd.func25, Tryd.ntmps25
  go_wp2_with fail
  refine HF.out.mono ?_
  rintro e w1 ⟨z, r, rfl, ⟨m, rfl⟩, hf⟩
  rcases hf with ⟨i, hi, h1, h2, rfl, rfl⟩ | ⟨h1, rfl, rfl⟩
  · have q2 : (w.drewN m).cell? ⟨bP, 2, none⟩ = some (.slice (some ⟨bS, 0, none⟩) n n) := p2
    have hbm1 : bP < (w.drewN m).heap.size := hb1
    have hbm2 : bS < (w.drewN m).heap.size := hb2
    have c2 := (H.out.is.drewN m).c2 hi
    have R := Lib.hid (show GotAt n s k (atS s i).v true from .inl ⟨⟨i, hi, h1, h2, rfl⟩, rfl⟩)
    generalize (atS s i).v = v at *
    clear h1 h2
    go_wp2
    go_ret2
    exact ⟨v, true, rfl, ⟨m, rfl⟩, R.out⟩
  · have R := Lib.hid (show GotAt n s k 0 false from .inr ⟨fun v ⟨i, hi, q1, q2, _⟩ => h1 i hi q1 q2, rfl, rfl⟩)
    clear h1
    go_wp2
    go_ret2
    exact ⟨0, false, rfl, ⟨m, rfl⟩, R.out⟩
end Go.Proofs.YtgcdminjpdbchaaDoor
