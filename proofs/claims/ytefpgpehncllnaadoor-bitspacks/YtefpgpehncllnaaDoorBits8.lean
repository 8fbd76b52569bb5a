/- The contract of the document's own Set. -/
import Derived.Test.YtefpgpehncllnaaDoorBits7
import Derived.Laws.AppendOwnNone
namespace Go.Proofs.YtefpgpehncllnaaDoor
open Go.ChangeShapes Go.WideShapes Go.ChangeAt Go.RowKit
set_option linter.unusedVariables false

/-- One more bit is set. -/
theorem set_more (ns : List Nat) (p j n v : Nat) (ha : AllW ns) (hv : v.testBit 0 = n.testBit j) (hl : p + j < 64 * ns.length) : setW (setW ns p j n) (p + j) 1 v = setW ns p (j + 1) n := by
  refine words_ext (by simp [setW_len]) (setW_all _ _ _ _) (setW_all _ _ _ _) ?_
  intro i hi
  rw [setW_len, setW_len] at hi
  rw [setW_bit _ _ _ _ _ (by rw [setW_len]; exact hi), setW_bit _ _ _ _ _ hi, setW_bit _ _ _ _ _ hi]
  by_cases h1 : p + j ≤ i ∧ i < p + j + 1
  · rw [if_pos h1, if_pos (by omega), show i - (p + j) = 0 by omega, show i - p = j by omega, hv]
  · rw [if_neg h1]
    by_cases h2 : p ≤ i ∧ i < p + j
    · rw [if_pos h2, if_pos (by omega)]
    · rw [if_neg h2, if_neg (by omega)]
theorem set_bit_word (ns : List Nat) (p j n b : Nat) (ha : AllW ns) (hb : b = (n.testBit j).toNat) (hl : p + j < 64 * ns.length) :
    (setW ns p j n).set ((p + j) / 64) (put1 ((setW ns p j n).getD ((p + j) / 64) 0) 1 b ((p + j) % 64)) = setW ns p (j + 1) n := by
  have h := write_one (setW ns p j n) (p + j) 1 b (by omega) (setW_all _ _ _ _) (by omega) (by rw [setW_len]; omega)
  rw [show b &&& (2 ^ 1 - 1) = b by rw [hb]; cases n.testBit j <;> rfl] at h
  rw [show (2 : Nat) ^ 1 - 1 = 1 from rfl] at h
  rw [h]
  refine set_more ns p j n b ha ?_ hl
  rw [hb]; cases n.testBit j <;> rfl
theorem clear_int (a s : Nat) (ha : a < 18446744073709551616) (hs : s < 64) : bits BinOp.andNot IntKind.u64 (a : Int) (IntKind.u64.wrap (2 ^ s)) = ((put1 a 1 0 s : Nat) : Int) := by
  have h1 := shl_nat 1 s
  rw [show ((1 : Nat) : Int) * 2 ^ s = 2 ^ s by simp] at h1
  rw [h1, andNot_nat _ _ ha (mod_lt64 _)]
  unfold put1
  rw [Nat.zero_shiftLeft, Nat.zero_mod, Nat.or_zero]
theorem lay_int (a s : Nat) (ha : a < 18446744073709551616) (hs : s < 64) : bits BinOp.or IntKind.u64 ((put1 a 1 0 s : Nat) : Int) (IntKind.u64.wrap (2 ^ s)) = ((put1 a 1 1 s : Nat) : Int) := by
  have h1 := shl_nat 1 s
  rw [show ((1 : Nat) : Int) * 2 ^ s = 2 ^ s by simp] at h1
  rw [h1, bits_or_u64_nat _ _ (put1_lt _ _ _ _ ha) (mod_lt64 _)]
  unfold put1
  rw [Nat.zero_shiftLeft, Nat.zero_mod, Nat.or_zero]
theorem bit_of (n j : Nat) (hn : n < 18446744073709551616) : bits BinOp.and IntKind.u64 ((n : Int) / 2 ^ j) 1 = (((n.testBit j).toNat : Nat) : Int) := by
  rw [shr_nat, show (1 : Int) = ((1 : Nat) : Int) from rfl, bits_and_u64_nat _ 1 (shr_lt _ hn) (by decide)]
  rw [Nat.and_one_is_mod, Nat.shiftRight_eq_div_pow, ← Nat.toNat_testBit]

theorem rSet_yes (ad : Addr) (len cap : Nat) (ns : List Nat) (p k n : Nat) (w : World) (hl : len ≤ 1000) (hw : Words w (some ad) len ns) (hk : k ≤ 64) (hp : p + k ≤ 64 * len) (hn : n < 18446744073709551616) :
    Calls Tryd.prog 14 #[.slice (some ad) len cap, .int .i64 p, .int .i64 k, .int .u64 n] w (SetTold len (setW ns p k n) w) := by
  obtain ⟨i0, hi, hz0, hz1, hz2⟩ := info_parts Tryd.infoU64
  have HI := Lib.hid (And.intro hi (And.intro hz0 (And.intro hz1 hz2)))
  have hown : (w.alloc (Obj.cells #[] 24)).ownsRow w.heap.size 24 1 (.slice (some ⟨w.heap.size, 0, none⟩) 0 0) 0 [] := World.ownsRow_lit w #[] 0 (Nat.le_refl _) (by unfold maxLen; omega) rfl
  have HO := Lib.hid hown
  have HW := Lib.hid (hw.below ((Below.refl _ _).alloc (Nat.le_refl _) (Obj.cells #[] 24)))
  have HN := Lib.hid hn
  have hlen := Lib.hid hw.1
  have hall := Lib.hid hw.2.1
  clear hi hz0 hz1 hz2 hown hw hn
  go_enter Tryd.func14, Tryd.ntmps14
  go_wp2_with (first | (go_at_call 26; refine (rthere_yes _ _ _ _ _ _ hl (by unfold InField; omega)).mono ?_; rintro e w' ⟨rfl, rfl⟩) | (at_builtin; refine wpList_append_own _ rfl _ _ 22 rfl w.heap.size 24 i0 (.int .u64 0) 1 8 Tryd.underlying22 HI.out.1 HI.out.2.1 HI.out.2.2.1 HI.out.2.2.2 rfl (by decide) _ 0 [] rfl HO.out ad len cap (ns.map fun (x : Nat) => Value.int .u64 (x : Int)) rfl ?c1 ?c2 ?c3 ?c4 ?c5 ?c6 ?_))
  case c1 => simpa using HW.out.1
  case c2 =>
    intro j u hj
    have hjl : j < len := by
      have := (List.getElem?_eq_some_iff.1 hj).1
      have h1 := HW.out.1
      simp at this
      omega
    obtain ⟨b, off, e, hb, hc⟩ := HW.out.2.2 (by omega)
    injection e with e
    subst e
    have h2 := hc j hjl
    rw [List.getElem?_map] at hj
    have hj2 : j < ns.length := by rw [HW.out.1]; exact hjl
    rw [List.getElem?_eq_getElem hj2] at hj
    rw [List.getD_eq_getElem?_getD, List.getElem?_eq_getElem hj2] at h2
    have e2 : (⟨b, off, none⟩ : Addr).add j = ⟨b, off + j, none⟩ := by unfold Addr.add; split <;> simp_all
    rw [e2, h2]
    exact hj
  case c3 => intro u hu; simp at hu; obtain ⟨x, _, rfl⟩ := hu; rfl
  case c4 => unfold maxLen; omega
  case c5 => omega
  case c6 => simp
  intro v' w1 hown' hgrow hnil
  obtain ⟨g, c', rfl, hcc, hbg, ho⟩ := own_of_row hown' HW.out.2.1 hnil
  have hbel : Below w.heap.size w w1 := ((Below.refl _ _).alloc (Nat.le_refl _) (Obj.cells #[] 24)).grown hgrow (by simp) (fun k hk => by simp [Value.ownBlock] at hk; omega)
  have O1 := Lib.hid ho
  have B1 := Lib.hid hbel
  clear hown' hgrow hnil ho hbel HW HO HI
  go_wp2
  go_loopw [11] (fun i wr => ∃ j : Nat, j ≤ k ∧ i = .int .i64 j ∧ OwnW wr g len (setW ns p j n) ∧ Below w.heap.size w wr) (fun i _ => k - (intOf i).toNat)
  case atStart => exact ⟨0, Nat.zero_le _, rfl, by rw [set_none _ _ _ hall.out]; exact O1.out, B1.out⟩
  case round =>
    obtain ⟨j, hj, rfl, ho, hb⟩ := hrel
    by_cases hlt : j < k
    · have c0 := ho.cell (i := (p + j) / 64) (by omega)
      have l0 := ho.loose ((p + j) / 64)
      have hal := ho.all.at_ ((p + j) / 64)
      have HOW := Lib.hid ho
      have HB := Lib.hid hb
      have E := Lib.hid (fun b hb => set_bit_word ns p j n b hall.out hb (by rw [hlen.out]; omega))
      have hbit := bit_of n j HN.out
      have x1 := clear_int ((setW ns p j n).getD ((p + j) / 64) 0) ((p + j) % 64) hal (by omega)
      have x2 := lay_int ((setW ns p j n).getD ((p + j) / 64) 0) ((p + j) % 64) hal (by omega)
      have HAL := Lib.hid hal
      clear ho hb hal
      cases hbv : n.testBit j with
      | true =>
        rw [hbv] at hbit
        have S := Lib.hid (((HOW.out.store (i := (p + j) / 64) (v := put1 ((setW ns p j n).getD ((p + j) / 64) 0) 1 0 ((p + j) % 64)) (by omega) (put1_lt _ _ _ _ HAL.out))).store (i := (p + j) / 64) (v := put1 ((setW ns p j n).getD ((p + j) / 64) 0) 1 1 ((p + j) % 64)) (by omega) (put1_lt _ _ _ _ HAL.out))
        rw [List.set_set, E.out 1 (by rw [hbv]; rfl)] at S
        generalize (setW ns p j n).getD ((p + j) / 64) 0 = a at *
        clear hbv
        go_wp2
        go_roundw
        case rel => exact ⟨j + 1, by omega, by go_num, S.out, (HB.out.setCell (p := ⟨g, (p + j) / 64, none⟩) hbg _).setCell (p := ⟨g, (p + j) / 64, none⟩) hbg _⟩
        case measure => simp [intOf]; omega
      | false =>
        rw [hbv] at hbit
        have S := Lib.hid (HOW.out.store (i := (p + j) / 64) (v := put1 ((setW ns p j n).getD ((p + j) / 64) 0) 1 0 ((p + j) % 64)) (by omega) (put1_lt _ _ _ _ HAL.out))
        rw [E.out 0 (by rw [hbv]; rfl)] at S
        generalize (setW ns p j n).getD ((p + j) / 64) 0 = a at *
        clear hbv
        go_wp2
        go_roundw
        case rel => exact ⟨j + 1, by omega, by go_num, S.out, HB.out.setCell (p := ⟨g, (p + j) / 64, none⟩) hbg _⟩
        case measure => simp [intOf]; omega
    · have R : Hid (SetTold len (setW ns p k n) w (.returned (.tuple #[.slice (some ⟨g, 0, none⟩) len c', .bool true])) wr) := by
        have hj' : j = k := by omega
        rw [hj'] at ho
        exact ⟨_, c', rfl, ⟨hcc, ho.len_, ho.all, .inr ⟨g, rfl, hbg, ho⟩⟩, hb⟩
      clear ho hb
      go_wp2
      go_ret2
      exact R.out
theorem rSet_nil (p n : Nat) (w : World) (hp : p = 0) :
    Calls Tryd.prog 14 #[.slice none 0 0, .int .i64 p, .int .i64 0, .int .u64 n] w (SetTold 0 [] w) := by
  obtain ⟨i0, hi, hz0, hz1, hz2⟩ := info_parts Tryd.infoU64
  have HI := Lib.hid hi
  have hown : (w.alloc (Obj.cells #[] 24)).ownsRow w.heap.size 24 1 (.slice (some ⟨w.heap.size, 0, none⟩) 0 0) 0 [] := World.ownsRow_lit w #[] 0 (Nat.le_refl _) (by unfold maxLen; omega) rfl
  have HO := Lib.hid hown
  have HH := Lib.hid (Has.made w 24 [])
  clear hi hz0 hz1 hz2 hown
  subst hp
  go_enter Tryd.func14, Tryd.ntmps14
  go_wp2_with (first | (go_at_call 26; refine (rthere_yes _ _ _ _ _ _ (by omega) (by unfold InField; omega)).mono ?_; rintro e w' ⟨rfl, rfl⟩) | (at_builtin; refine wpList_append_own_none rfl _ _ 22 rfl w.heap.size 24 i0 1 Tryd.underlying22 HI.out _ 0 [] rfl HO.out rfl ?_))
  go_loop [11] (fun i => i = .int .i64 0) (fun i => 0)
  case atStart => rfl
  case round =>
    subst hrel
    go_wp2
    go_ret2
    exact ⟨_, 0, rfl, ⟨Nat.le_refl _, rfl, (by intro x hx; cases hx), .inr ⟨_, rfl, Nat.le_refl _, [], HH.out, Nat.le_refl _, rfl, (by intro x hx; cases hx), fun i hi => by omega⟩⟩, (Below.refl _ _).alloc (Nat.le_refl _) _⟩
theorem rSet_no (A : Option Addr) (len cap : Nat) (p k n : Int) (w : World) (hl : len ≤ 1000) (h : ¬ InField len p k) :
    Calls Tryd.prog 14 #[.slice A len cap, .int .i64 p, .int .i64 k, .int .u64 n] w fun e w' => e = .returned (.tuple #[.slice none 0 0, .bool false]) ∧ w = w' := by
  go_enter Tryd.func14, Tryd.ntmps14
  go_wp2_with (first | (go_at_call 26; refine (rthere_no _ _ _ _ _ _ hl h).mono ?_; rintro e w' ⟨rfl, rfl⟩))
  go_ret2
  exact ⟨rfl, rfl⟩
end Go.Proofs.YtefpgpehncllnaaDoor
