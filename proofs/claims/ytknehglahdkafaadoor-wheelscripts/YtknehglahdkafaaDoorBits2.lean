/- Words that a call made, and the contracts of bits.write, slices.Clone and bits.Set. -/
import Derived.Test.YtknehglahdkafaaDoorBits1
import Derived.RegionTactic
import Derived.BigRegion
import Derived.ChangeAlike
import Derived.OwnWalk
import Derived.Lib.SliceRun
namespace Go.Proofs.YtknehglahdkafaaDoor
open Go.ChangeShapes Go.WideShapes Go.ChangeAt Go.RowKit
set_option linter.unusedVariables false

/-- Block g is a row of the call's own whose first len cells are these words. -/
def OwnW (w : World) (g len : Nat) (ns : List Nat) : Prop :=
  ∃ l, Has w g 34 l ∧ len ≤ l.length ∧ ns.length = len ∧ AllW ns ∧ ∀ i, i < len → l[i]? = some (.int .u64 (ns.getD i 0 : Nat))
/-- Nothing but block g has changed. -/
structure Only (g : Nat) (w w' : World) : Prop where
  os : w'.os = w.os
  tape : w'.tape = w.tape
  output : w'.output = w.output
  size : w'.heap.size = w.heap.size
  block : ∀ k, k ≠ g → w'.heap[k]? = w.heap[k]?
theorem Only.refl (g : Nat) (w : World) : Only g w w := ⟨rfl, rfl, rfl, rfl, fun _ _ => rfl⟩
theorem Only.drew {g : Nat} {a w : World} (h : Only g a w) : Only g a w.drew := ⟨h.os, h.tape, h.output, h.size, h.block⟩
theorem Only.setCell {g : Nat} {a w : World} (h : Only g a w) (i : Nat) (u : Value) : Only g a (w.setCell ⟨g, i, none⟩ u) :=
  ⟨h.os, h.tape, h.output, by rw [← h.size]; simp [World.setCell], fun k hk => by rw [Below.heap_setCell w ⟨g, i, none⟩ u k hk]; exact h.block k hk⟩
theorem Only.trans {g : Nat} {a b c : World} (h : Only g a b) (k : Only g b c) : Only g a c :=
  ⟨k.os.trans h.os, k.tape.trans h.tape, k.output.trans h.output, k.size.trans h.size, fun i hi => (k.block i hi).trans (h.block i hi)⟩
theorem Only.below {g B : Nat} {w w' : World} (h : Only g w w') (hg : B ≤ g) : Below B w w' :=
  ⟨h.os, h.tape, h.output, Nat.le_of_eq h.size.symm, fun k hk => h.block k (by omega)⟩

theorem OwnW.lt {w : World} {g len : Nat} {ns : List Nat} (h : OwnW w g len ns) : g < w.heap.size := by
  obtain ⟨l, hh, _⟩ := h; exact hh.lt
theorem OwnW.cell {w : World} {g len : Nat} {ns : List Nat} (h : OwnW w g len ns) {i : Nat} (hi : i < len) : w.cell? ⟨g, i, none⟩ = some (.int .u64 (ns.getD i 0 : Nat)) := by
  obtain ⟨l, hh, _, _, _, hc⟩ := h; rw [hh.cell]; exact hc i hi
theorem OwnW.loose {w : World} {g len : Nat} {ns : List Nat} (h : OwnW w g len ns) (i : Nat) : w.frozen? ⟨g, i, none⟩ = false := by
  obtain ⟨l, hh, _⟩ := h; exact hh.loose i
theorem OwnW.all {w : World} {g len : Nat} {ns : List Nat} (h : OwnW w g len ns) : AllW ns := by
  obtain ⟨l, _, _, _, ha, _⟩ := h; exact ha
theorem OwnW.len_ {w : World} {g len : Nat} {ns : List Nat} (h : OwnW w g len ns) : ns.length = len := by
  obtain ⟨l, _, _, hn, _, _⟩ := h; exact hn
theorem OwnW.drew {w : World} {g len : Nat} {ns : List Nat} (h : OwnW w g len ns) : OwnW w.drew g len ns := h
theorem OwnW.store {w : World} {g len : Nat} {ns : List Nat} (h : OwnW w g len ns) {i v : Nat} (hi : i < len) (hv : v < 18446744073709551616) : OwnW (w.setCell ⟨g, i, none⟩ (.int .u64 (v : Int))) g len (ns.set i v) := by
  obtain ⟨l, hh, hl, hn, ha, hc⟩ := h
  refine ⟨_, hh.store i _, by simpa using hl, by simpa using hn, ?_, ?_⟩
  · intro x hx
    rcases List.mem_or_eq_of_mem_set hx with hx | rfl
    · exact ha x hx
    · exact hv
  · intro j hj
    rw [List.getElem?_set, List.getD_eq_getElem?_getD, List.getElem?_set]
    by_cases e : i = j
    · subst e; simp [hn, hi, Nat.lt_of_lt_of_le hi hl]
    · rw [if_neg e, if_neg e, hc j hj, List.getD_eq_getElem?_getD]
theorem OwnW.below {w w' : World} {B g len : Nat} {ns : List Nat} (h : OwnW w g len ns) (hb : Below B w w') (hg : g < B) : OwnW w' g len ns := by
  obtain ⟨l, hh, h2⟩ := h
  exact ⟨l, hh.below hb hg, h2⟩
theorem OwnW.words {w : World} {g len : Nat} {ns : List Nat} (h : OwnW w g len ns) : Words w (some ⟨g, 0, none⟩) len ns :=
  ⟨h.len_, h.all, fun _ => ⟨g, 0, rfl, h.lt, fun i hi => by rw [Nat.zero_add]; exact h.cell hi⟩⟩

/-- What write leaves. -/
def Wrote (g len : Nat) (w : World) (ns' : List Nat) (e : Ending) (w' : World) : Prop := e = .returned (.tuple #[]) ∧ OwnW w' g len ns' ∧ Only g w w'

theorem put1_int (a f n s : Nat) (ha : a < 18446744073709551616) : bits BinOp.or IntKind.u64 (bits BinOp.andNot IntKind.u64 (a : Int) (IntKind.u64.wrap ((f : Int) * 2 ^ s))) (IntKind.u64.wrap ((n : Int) * 2 ^ s)) = ((put1 a f n s : Nat) : Int) := by
  rw [shl_nat, shl_nat, andNot_nat _ _ ha (mod_lt64 _), bits_or_u64_nat _ _ (Nat.lt_of_le_of_lt Nat.and_le_left ha) (mod_lt64 _)]
  rfl
theorem put2_int (b f n l : Nat) (hb : b < 18446744073709551616) (hf : f < 18446744073709551616) (hn : n < 18446744073709551616) : bits BinOp.or IntKind.u64 (bits BinOp.andNot IntKind.u64 (b : Int) ((f : Int) / 2 ^ l)) ((n : Int) / 2 ^ l) = ((put2 b f n l : Nat) : Int) := by
  rw [shr_nat, shr_nat, andNot_nat _ _ hb (shr_lt _ hf), bits_or_u64_nat _ _ (Nat.lt_of_le_of_lt Nat.and_le_left hb) (shr_lt _ hn)]
  rfl

theorem write_any (g len cap : Nat) (ns : List Nat) (p k n : Nat) (w : World) (hl : len ≤ 1000) (hc : len ≤ cap) (hw : OwnW w g len ns) (hk : k ≤ 64) (hp : p + k ≤ 64 * len) (hn : n < 18446744073709551616) :
    Calls Tryd.prog 39 #[.slice (some ⟨g, 0, none⟩) len cap, .int .i64 p, .int .i64 k, .int .u64 n] w (Wrote g len w (setW ns p k n)) := by
  by_cases hk0 : k = 0
  · have E := Lib.hid (set_none ns p n hw.all)
    subst hk0
    go_enter Tryd.func39, Tryd.ntmps39
    go_wp2
    go_end0
    exact ⟨rfl, by rw [E.out]; exact hw, Only.refl _ _⟩
  have t0 : ((k : Int) == 0) = false := by simp; omega
  obtain ⟨a, hav⟩ : ∃ a, a = ns.getD (p / 64) 0 := ⟨_, rfl⟩
  have c0 := hw.cell (i := p / 64) (by omega)
  rw [← hav] at c0
  have l0 := hw.loose (p / 64)
  have hal : a < 18446744073709551616 := by rw [hav]; exact hw.all.at_ _
  have hnn : bits BinOp.and IntKind.u64 (n : Int) (onesN k : Int) = ((n &&& onesN k : Nat) : Int) := bits_and_u64_nat _ _ hn (onesN_lt hk)
  have hp1 := put1_int a (onesN k) (n &&& onesN k) (p % 64) hal
  have hnl : n &&& onesN k < 18446744073709551616 := Nat.lt_of_le_of_lt Nat.and_le_left hn
  by_cases h2 : p % 64 + k ≤ 64
  · have E := Lib.hid (write_one ns p k n hk hw.all h2 (by rw [hw.len_]; omega))
    rw [← hav] at E
    have HW := Lib.hid (hw.store (i := p / 64) (v := put1 a (onesN k) (n &&& onesN k) (p % 64)) (by omega) (put1_lt _ _ _ _ hal))
    clear hw hav
    have HAL := Lib.hid hal
    have HNL := Lib.hid hnl
    have HN := Lib.hid hn
    clear hal hnl hn
    go_enter Tryd.func39, Tryd.ntmps39
    go_wp2_with (first | (go_at_call 41; refine (ones_any _ _ hk).mono ?_; rintro e w' ⟨rfl, rfl⟩))
    go_region
    go_wp2
    go_end0
    exact ⟨rfl, by rw [← E.out]; exact HW.out.drew, ((Only.refl _ _).setCell _ _).drew⟩
  · obtain ⟨c, hcv⟩ : ∃ c, c = ns.getD (p / 64 + 1) 0 := ⟨_, rfl⟩
    have c1 := hw.cell (i := p / 64 + 1) (by omega)
    rw [← hcv] at c1
    have l1 := hw.loose (p / 64 + 1)
    have hcl : c < 18446744073709551616 := by rw [hcv]; exact hw.all.at_ _
    have hp2 := put2_int c (onesN k) (n &&& onesN k) (64 - p % 64) hcl (onesN_lt hk) hnl
    have E := Lib.hid (write_two ns p k n hk hw.all h2 (by rw [hw.len_]; omega) hn)
    rw [← hav, ← hcv] at E
    have HW := Lib.hid ((hw.store (i := p / 64) (v := put1 a (onesN k) (n &&& onesN k) (p % 64)) (by omega) (put1_lt _ _ _ _ hal)).store (i := p / 64 + 1) (v := put2 c (onesN k) (n &&& onesN k) (64 - p % 64)) (by omega) (put2_lt _ _ _ _ hcl hnl))
    clear hw hav hcv
    have HAL := Lib.hid hal
    have HNL := Lib.hid hnl
    have HN := Lib.hid hn
    have HCL := Lib.hid hcl
    clear hal hnl hn hcl
    go_enter Tryd.func39, Tryd.ntmps39
    go_wp2_with (first | (go_at_call 41; refine (ones_any _ _ hk).mono ?_; rintro e w' ⟨rfl, rfl⟩))
    go_region
    go_wp2
    go_region
    go_wp2
    go_end0
    exact ⟨rfl, by rw [← E.out]; exact HW.out.drew, (((Only.refl _ _).setCell _ _).setCell _ _).drew.drew⟩

theorem Tryd.infoU64 : (Tryd.prog.info? 34).map (fun i => (i.zero, i.size, i.bytes)) = some (some (.int .u64 0), 1, 8) := by kernel_rfl

/-- A slice that a call made of these words: nil, or a row of its own. -/
def Fresh (B : Nat) (w' : World) (A : Option Addr) (len cap : Nat) (ns : List Nat) : Prop :=
  len ≤ cap ∧ ns.length = len ∧ AllW ns ∧ ((A = none ∧ len = 0) ∨ ∃ g, A = some ⟨g, 0, none⟩ ∧ B ≤ g ∧ OwnW w' g len ns)
theorem Fresh.words {B : Nat} {w' : World} {A : Option Addr} {len cap : Nat} {ns : List Nat} (h : Fresh B w' A len cap ns) : Words w' A len ns := by
  obtain ⟨_, h2, h3, h4⟩ := h
  rcases h4 with ⟨rfl, rfl⟩ | ⟨g, rfl, _, ho⟩
  · exact ⟨h2, h3, fun h => absurd h (by omega)⟩
  · exact ho.words
/-- What Clone tells. -/
def Cloned (len : Nat) (ns : List Nat) (w : World) (e : Ending) (w' : World) : Prop :=
  ∃ A cap, e = .returned (.slice A len cap) ∧ Fresh w.heap.size w' A len cap ns ∧ Below w.heap.size w w'

theorem own_of_row {w : World} {base : Nat} {v : Value} {n : Nat} {ns : List Nat} (h : w.ownsRow base 34 1 v n (ns.map fun (x : Nat) => Value.int .u64 (x : Int))) (ha : AllW ns) (hv : ¬ v = .slice none 0 0) :
    ∃ g cap, v = .slice (some ⟨g, 0, none⟩) n cap ∧ n ≤ cap ∧ base ≤ g ∧ OwnW w g n ns := by
  obtain ⟨h1, h2⟩ := h
  rcases h2 with ⟨h2, _⟩ | ⟨g, cap, cur, rfl, hb, hh, hc, hm, hz, ht⟩
  · exact absurd h2 hv
  · refine ⟨g, cap, rfl, hc, hb, cur.toList, ?_, ?_, by simpa using h1, ha, ?_⟩
    · unfold Has; rw [hh]
    · rw [Array.length_toList, hz]; omega
    · intro i hi
      have h3 : (cur.toList.take (n * 1))[i]? = cur.toList[i]? := by rw [List.getElem?_take, if_pos (by omega)]
      rw [← h3, ht]
      have h4 : i < ns.length := by simp at h1; omega
      rw [List.getElem?_map, List.getElem?_eq_getElem h4, List.getD_eq_getElem?_getD, List.getElem?_eq_getElem h4]
      rfl

theorem Clone_any (A : Option Addr) (len cap : Nat) (ns : List Nat) (w : World) (hl : len ≤ 1000) (hw : Words w A len ns) :
    Calls Tryd.prog 38 #[.slice A len cap] w (Cloned len ns w) := by
  cases A with
  | none =>
    have h0 : len = 0 := by
      obtain ⟨_, _, h3⟩ := hw
      rcases Nat.eq_zero_or_pos len with h | h
      · exact h
      · obtain ⟨b, off, h', _⟩ := h3 h; cases h'
    subst h0
    have hn := hw.1
    have hall := hw.2.1
    have hq : ∀ W, (binOp .eql 61 (.slice none 0 cap) (.slice none 0 0)).run Tryd.prog W = .ok (.bool true) W := fun W => Lib.run_eql_slice_nil W _ _ none 0 cap 0 0 Tryd.underlying61
    go_enter Tryd.func38, Tryd.ntmps38
    go_wp2
    go_ret
    exact ⟨none, 0, rfl, ⟨Nat.le_refl _, hn, hall, .inl ⟨rfl, rfl⟩⟩, Below.refl _ _⟩
  | some ad =>
    obtain ⟨i0, hi, hz0, hz1, hz2⟩ := info_parts Tryd.infoU64
    have HI := Lib.hid (And.intro hi (And.intro hz0 (And.intro hz1 hz2)))
    have hown : (w.alloc (Obj.cells #[] 34)).ownsRow w.heap.size 34 1 (.slice (some ⟨w.heap.size, 0, none⟩) 0 0) 0 [] := World.ownsRow_lit w #[] 0 (Nat.le_refl _) (by unfold maxLen; omega) rfl
    have HO := Lib.hid hown
    have HW := Lib.hid (hw.below ((Below.refl _ _).alloc (Nat.le_refl _) (Obj.cells #[] 34)))
    clear hi hz0 hz1 hz2 hown hw
    have hq : ∀ W, (binOp .eql 61 (.slice (some ad) len cap) (.slice none 0 0)).run Tryd.prog W = .ok (.bool false) W := fun W => Lib.run_eql_slice_nil W _ _ (some ad) len cap 0 0 Tryd.underlying61
    go_enter Tryd.func38, Tryd.ntmps38
    go_wp2_with (first | (at_builtin; refine wpList_append_own _ rfl _ _ 61 rfl w.heap.size 34 i0 (.int .u64 0) 1 8 Tryd.underlying61 HI.out.1 HI.out.2.1 HI.out.2.2.1 HI.out.2.2.2 rfl (by decide) _ 0 [] rfl HO.out ad len cap (ns.map fun (x : Nat) => Value.int .u64 (x : Int)) rfl ?c1 ?c2 ?c3 ?c4 ?c5 ?c6 ?_))
    case c1 => simpa using HW.out.1
    case c2 =>
      intro j u hj
      have hjl : j < len := by
        have := (List.getElem?_eq_some_iff.1 hj).1
        have h1 := HW.out.1
        simp at this
        omega
      obtain ⟨b, off, e, hb, hc⟩ := HW.out.2.2 (by omega)
      injection e with e
      subst e
      have h2 := hc j hjl
      rw [List.getElem?_map] at hj
      have hj2 : j < ns.length := by rw [HW.out.1]; exact hjl
      rw [List.getElem?_eq_getElem hj2] at hj
      rw [List.getD_eq_getElem?_getD, List.getElem?_eq_getElem hj2] at h2
      have e2 : (⟨b, off, none⟩ : Addr).add j = ⟨b, off + j, none⟩ := by unfold Addr.add; split <;> simp_all
      rw [e2, h2]
      exact hj
    case c3 => intro u hu; simp at hu; obtain ⟨x, _, rfl⟩ := hu; rfl
    case c4 => unfold maxLen; omega
    case c5 => omega
    case c6 => simp
    intro v' w1 hown' hgrow hnil
    have hv := hnil
    obtain ⟨g, c', rfl, hcc, hbg, ho⟩ := own_of_row hown' HW.out.2.1 hv
    have hbel : Below w.heap.size w w1 := ((Below.refl _ _).alloc (Nat.le_refl _) (Obj.cells #[] 34)).grown hgrow (by simp) (fun k hk => by simp [Value.ownBlock] at hk; omega)
    have R : Hid (Cloned len ns w (.returned (.slice (some ⟨g, 0, none⟩) len c')) w1) := ⟨_, _, rfl, ⟨hcc, HW.out.1, HW.out.2.1, .inr ⟨g, rfl, hbg, ho⟩⟩, hbel⟩
    clear hown' hgrow hnil hv ho hbel
    go_wp2
    go_ret
    exact R.out

theorem write_none (A : Option Addr) (len cap : Nat) (p n : Int) (w : World) :
    Calls Tryd.prog 39 #[.slice A len cap, .int .i64 p, .int .i64 0, .int .u64 n] w fun e w' => e = .returned (.tuple #[]) ∧ w = w' := by
  go_enter Tryd.func39, Tryd.ntmps39
  go_wp2
  refine bodyPost_ret (results_none (by rfl) _ _ _) rfl ?_
  exact ⟨rfl, rfl⟩

/-- What Set tells. -/
def SetTold (len : Nat) (ns : List Nat) (w : World) (e : Ending) (w' : World) : Prop :=
  ∃ A cap, e = .returned (.tuple #[.slice A len cap, .bool true]) ∧ Fresh w.heap.size w' A len cap ns ∧ Below w.heap.size w w'

theorem Set_yes (A : Option Addr) (len cap : Nat) (ns : List Nat) (p k n : Nat) (w : World) (hl : len ≤ 1000) (hw : Words w A len ns) (hk : k ≤ 64) (hp : p + k ≤ 64 * len) (hn : n < 18446744073709551616) :
    Calls Tryd.prog 35 #[.slice A len cap, .int .i64 p, .int .i64 k, .int .u64 n] w (SetTold len (setW ns p k n) w) := by
  have HN := Lib.hid hn
  have HC := Lib.hid (Clone_any A len cap ns w hl hw)
  clear hn
  go_enter Tryd.func35, Tryd.ntmps35
  go_wp2_with (first | (go_at_call 36; refine (there_yes _ _ _ _ _ _ hl (by unfold InField; omega)).mono ?_; rintro e w' ⟨rfl, rfl⟩))
  refine HC.out.mono ?_
  rintro e w1 ⟨A1, c1, rfl, hf, hb⟩
  obtain ⟨f1, f2, f3, f4⟩ := hf
  rcases f4 with ⟨rfl, f4⟩ | ⟨g, rfl, hg, ho⟩
  · have hk0 : k = 0 := by omega
    subst hk0
    have R : Hid (SetTold len (setW ns p 0 n) w (.returned (.tuple #[.slice none len c1, .bool true])) w1) :=
      ⟨none, c1, rfl, ⟨f1, by rw [setW_len]; exact f2, setW_all _ _ _ _, .inl ⟨rfl, f4⟩⟩, hb⟩
    clear hb f1 f2 f3 f4
    go_wp2_with (first | (go_at_call 39; refine (write_none _ _ _ _ _ _).mono ?_; rintro e w' ⟨rfl, rfl⟩))
    go_ret2
    exact R.out
  · have HWr := Lib.hid (write_any g len c1 ns p k n w1 hl f1 ho hk hp HN.out)
    have HF := Lib.hid (And.intro f1 (And.intro f2 (And.intro hg hb)))
    clear ho f1 f2 f3 hg hb
    go_wp2_with fail
    refine HWr.out.mono ?_
    rintro e w2 ⟨rfl, ho2, hon⟩
    have R : Hid (SetTold len (setW ns p k n) w (.returned (.tuple #[.slice (some ⟨g, 0, none⟩) len c1, .bool true])) w2) :=
      ⟨_, c1, rfl, ⟨HF.out.1, by rw [setW_len]; exact HF.out.2.1, setW_all _ _ _ _, .inr ⟨g, rfl, HF.out.2.2.1, ho2⟩⟩, HF.out.2.2.2.trans (hon.below HF.out.2.2.1)⟩
    clear ho2 hon
    go_wp2
    go_ret2
    exact R.out
theorem Set_no (A : Option Addr) (len cap : Nat) (p k n : Int) (w : World) (hl : len ≤ 1000) (h : ¬ InField len p k) :
    Calls Tryd.prog 35 #[.slice A len cap, .int .i64 p, .int .i64 k, .int .u64 n] w fun e w' => e = .returned (.tuple #[.slice none 0 0, .bool false]) ∧ w = w' := by
  go_enter Tryd.func35, Tryd.ntmps35
  go_wp2_with (first | (go_at_call 36; refine (there_no _ _ _ _ _ _ hl h).mono ?_; rintro e w' ⟨rfl, rfl⟩))
  go_ret2
  exact ⟨rfl, rfl⟩
end Go.Proofs.YtknehglahdkafaaDoor
