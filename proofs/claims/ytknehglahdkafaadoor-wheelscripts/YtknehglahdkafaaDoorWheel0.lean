/- A wheel, as it lies in memory. -/
import Derived.Test.YtknehglahdkafaaDoorImap
import Derived.Test.YtknehglahdkafaaDoorWbits3
import Derived.Deep.QuietTactic
import Derived.BigQuiet
namespace Go.Proofs.YtknehglahdkafaaDoor
open Go.ChangeShapes Go.WideShapes Go.ChangeAt Go.RowKit
set_option linter.unusedVariables false

theorem flatMap_get {α β : Type} (f : α → List β) (m : Nat) (hm : ∀ a, (f a).length = m) (l : List α) (i j : Nat) (hj : j < m) : (l.flatMap f)[i * m + j]? = (l[i]?).bind fun a => (f a)[j]? := by
  induction l generalizing i with
  | nil => simp
  | cons a l ih =>
    rw [List.flatMap_cons]
    cases i with
    | zero => rw [List.getElem?_append_left (by rw [hm]; omega)]; simp
    | succ i =>
      rw [List.getElem?_append_right (by rw [hm, Nat.add_mul]; omega), hm, show (i + 1) * m + j - m = i * m + j by rw [Nat.add_mul]; omega, ih]
      simp
theorem flatMap_set {α β : Type} (f : α → List β) (m : Nat) (hm : ∀ a, (f a).length = m) (l : List α) (i j : Nat) (hj : j < m) (a a' : α) (v : β) (ha : l[i]? = some a) (hv : (f a).set j v = f a') :
    (l.flatMap f).set (i * m + j) v = (l.set i a').flatMap f := by
  induction l generalizing i with
  | nil => simp at ha
  | cons b l ih =>
    rw [List.flatMap_cons]
    cases i with
    | zero =>
      simp at ha
      subst ha
      rw [List.set_append_left _ _ (by rw [hm]; omega)]
      simp [hv]
    | succ i =>
      rw [List.set_append_right _ _ (by rw [hm, Nat.add_mul]; omega), hm, show (i + 1) * m + j - m = i * m + j by rw [Nat.add_mul]; omega, ih i (by simpa using ha)]
      simp
theorem flatMap_len {α β : Type} (f : α → List β) (m : Nat) (hm : ∀ a, (f a).length = m) (l : List α) : (l.flatMap f).length = l.length * m := by
  induction l with
  | nil => simp
  | cons a l ih => rw [List.flatMap_cons, List.length_append, hm, ih, List.length_cons, Nat.add_mul]; omega

/-- Places, as elements of a map. -/
def plE : Elem (Int × Int × Int) where
  val p := .agg #[.int .i64 p.1, .int .i64 p.2.1, .int .i64 p.2.2]
  dat p := .agg [.lit (.int .i64 p.1), .lit (.int .i64 p.2.1), .lit (.int .i64 p.2.2)]
  zero := (0, 0, 0)
  valI := fun ⟨a, b, c⟩ ⟨d, e, f⟩ h => by
    simp only [Value.agg.injEq] at h
    have h1 := congrArg Array.toList h
    simp at h1
    obtain ⟨rfl, rfl, rfl⟩ := h1
    rfl
  datI := fun ⟨a, b, c⟩ ⟨d, e, f⟩ h => by
    simp at h
    obtain ⟨rfl, rfl, rfl⟩ := h
    rfl
theorem Tryd.zeroPl (w : World) : (zeroValue 56).run Tryd.prog w = .ok (plE.val plE.zero) w := by
  have : (Tryd.prog.info? 56).map (fun i => i.zero) = some (some (.agg #[.int .i64 0, .int .i64 0, .int .i64 0])) := by kernel_rfl
  cases h : Tryd.prog.info? 56 with
  | none => rw [h] at this; cases this
  | some i => rw [h] at this; simp at this; simp [zeroValue, typeInfo, h, this, plE]

/-- A wheel: its mask, the ends of its rows, the places of its ids, how many there are. -/
structure WS where
  mask : Nat
  en : List (Int × Int)
  pl : Int → Option (Int × Int × Int)
  n : Nat
def enV (p : Int × Int) : List Value := [.int .i64 p.1, .int .i64 p.2]
theorem enV_len (p : Int × Int) : (enV p).length = 2 := rfl
def wheelV (bM : Nat) (s : WS) : List Value := .int .u64 (s.mask : Int) :: (s.en.flatMap enV ++ [.map (some bM)])
structure IsWh (w : World) (bP bM : Nat) (s : WS) : Prop where
  hd : Has w bP 54 (wheelV bM s)
  mp : IMap plE w bM s.pl s.n
  le : s.en.length = 64
  ml : s.mask < 18446744073709551616
def two (bP bM b : Nat) : Prop := b = bP ∨ b = bM
section
variable {w w' : World} {bP bM : Nat} {s : WS}
theorem IsWh.p0 (h : IsWh w bP bM s) : w.cell? ⟨bP, 0, none⟩ = some (.int .u64 (s.mask : Int)) := h.hd.cell 0
theorem IsWh.pM (h : IsWh w bP bM s) : w.cell? ⟨bP, 129, none⟩ = some (.map (some bM)) := by
  have := h.hd.cell 129
  rw [wheelV, show (129 : Nat) = 128 + 1 from rfl, List.getElem?_cons_succ, List.getElem?_append_right (by rw [flatMap_len _ 2 enV_len, h.le]; decide)] at this
  rw [flatMap_len _ 2 enV_len, h.le] at this
  exact this
theorem IsWh.e0 (h : IsWh w bP bM s) {i : Nat} {p : Int × Int} (hp : s.en[i]? = some p) : w.cell? ⟨bP, 1 + i * 2, none⟩ = some (.int .i64 p.1) := by
  have hi := (List.getElem?_eq_some_iff.1 hp).1
  have q := flatMap_get enV 2 enV_len s.en i 0 (by omega)
  rw [hp] at q
  have := h.hd.cell (i * 2 + 0 + 1)
  rw [wheelV, List.getElem?_cons_succ, List.getElem?_append_left (by rw [flatMap_len _ 2 enV_len]; omega)] at this
  have this := this.trans q
  rw [Nat.add_comm 1]
  exact this
theorem IsWh.e1 (h : IsWh w bP bM s) {i : Nat} {p : Int × Int} (hp : s.en[i]? = some p) : w.cell? ⟨bP, 1 + i * 2 + 1, none⟩ = some (.int .i64 p.2) := by
  have hi := (List.getElem?_eq_some_iff.1 hp).1
  have := h.hd.cell (i * 2 + 1 + 1)
  rw [wheelV, List.getElem?_cons_succ, List.getElem?_append_left (by rw [flatMap_len _ 2 enV_len]; omega), flatMap_get _ 2 enV_len _ _ _ (by omega), hp] at this
  rw [Nat.add_comm 1]
  exact this
theorem IsWh.ne (h : IsWh w bP bM s) : bM ≠ bP := h.mp.ne h.hd
theorem IsWh.kept {F : Nat → Prop} (h : IsWh w bP bM s) (hk : Kept F w w') (h1 : ¬ F bP) (h2 : ¬ F bM) : IsWh w' bP bM s := ⟨h.hd.kept hk h1, h.mp.kept hk h2, h.le, h.ml⟩
theorem IsWh.below (h : IsWh w bP bM s) (hb : Below w.heap.size w w') : IsWh w' bP bM s := h.kept (F := fun _ => False) (Kept.of_below hb) id id
theorem IsWh.drew (h : IsWh w bP bM s) : IsWh w.drew bP bM s := h.below (Below.refl _ _).drew
/-- One end is stored anew, or the mask, or the map. -/
def WS.setEn (s : WS) (i : Nat) (p : Int × Int) : WS := { s with en := s.en.set i p }
def WS.setMask (s : WS) (m : Nat) : WS := { s with mask := m }
def WS.setPl (s : WS) (k : Int) (p : Int × Int × Int) : WS := { s with pl := fun j => if j = k then some p else s.pl j, n := if (s.pl k).isSome then s.n else s.n + 1 }
def WS.delPl (s : WS) (k : Int) : WS := { s with pl := fun j => if j = k then none else s.pl j, n := if (s.pl k).isSome then s.n - 1 else s.n }
theorem wheelV_first (bM : Nat) (s : WS) {i : Nat} {p : Int × Int} (hp : s.en[i]? = some p) (x : Int) : (wheelV bM s).set (1 + i * 2) (.int .i64 x) = wheelV bM (s.setEn i (x, p.2)) := by
  have hi := (List.getElem?_eq_some_iff.1 hp).1
  rw [Nat.add_comm 1, wheelV, List.set_cons_succ, List.set_append_left _ _ (by rw [flatMap_len _ 2 enV_len]; omega), show i * 2 = i * 2 + 0 from rfl, flatMap_set enV 2 enV_len s.en i 0 (by omega) p (x, p.2) _ hp rfl]
  rfl
theorem wheelV_last (bM : Nat) (s : WS) {i : Nat} {p : Int × Int} (hp : s.en[i]? = some p) (x : Int) : (wheelV bM s).set (1 + i * 2 + 1) (.int .i64 x) = wheelV bM (s.setEn i (p.1, x)) := by
  have hi := (List.getElem?_eq_some_iff.1 hp).1
  rw [show 1 + i * 2 + 1 = i * 2 + 1 + 1 by omega, wheelV, List.set_cons_succ, List.set_append_left _ _ (by rw [flatMap_len _ 2 enV_len]; omega), flatMap_set enV 2 enV_len s.en i 1 (by omega) p (p.1, x) _ hp rfl]
  rfl
theorem IsWh.first (h : IsWh w bP bM s) {i : Nat} {p : Int × Int} (hp : s.en[i]? = some p) (x : Int) : IsWh (w.setCell ⟨bP, 1 + i * 2, none⟩ (.int .i64 x)) bP bM (s.setEn i (x, p.2)) :=
  ⟨by rw [← wheelV_first bM s hp]; exact h.hd.store _ _, h.mp.block (Below.heap_setCell w ⟨bP, 1 + i * 2, none⟩ _ bM h.ne), by simp [WS.setEn, h.le], h.ml⟩
theorem IsWh.last (h : IsWh w bP bM s) {i : Nat} {p : Int × Int} (hp : s.en[i]? = some p) (x : Int) : IsWh (w.setCell ⟨bP, 1 + i * 2 + 1, none⟩ (.int .i64 x)) bP bM (s.setEn i (p.1, x)) :=
  ⟨by rw [← wheelV_last bM s hp]; exact h.hd.store _ _, h.mp.block (Below.heap_setCell w ⟨bP, 1 + i * 2 + 1, none⟩ _ bM h.ne), by simp [WS.setEn, h.le], h.ml⟩
theorem IsWh.setM (h : IsWh w bP bM s) {m : Nat} (hm : m < 18446744073709551616) : IsWh (w.setCell ⟨bP, 0, none⟩ (.int .u64 (m : Int))) bP bM (s.setMask m) :=
  ⟨h.hd.store 0 _, h.mp.block (Below.heap_setCell w ⟨bP, 0, none⟩ _ bM h.ne), h.le, hm⟩
theorem IsWh.put (h : IsWh w bP bM s) {k : Int} {p : Int × Int × Int} (hm : IMap plE w' bM (fun j => if j = k then some p else s.pl j) (if (s.pl k).isSome then s.n else s.n + 1)) (hk : Kept (fun y => y = bM) w w') : IsWh w' bP bM (s.setPl k p) :=
  ⟨h.hd.kept hk (fun e => h.ne e.symm), hm, h.le, h.ml⟩
theorem IsWh.del (h : IsWh w bP bM s) {k : Int} (hm : IMap plE w' bM (fun j => if j = k then none else s.pl j) (if (s.pl k).isSome then s.n - 1 else s.n)) (hk : Kept (fun y => y = bM) w w') : IsWh w' bP bM (s.delPl k) :=
  ⟨h.hd.kept hk (fun e => h.ne e.symm), hm, h.le, h.ml⟩
end
theorem words_one (w : World) (n : Nat) (hn : n < 18446744073709551616) : Words (w.alloc (.cells #[.int .u64 (n : Int)] 34)) (some ⟨w.heap.size, 0, none⟩) 1 [n] := by
  have h := Has.made w 34 [.int .u64 (n : Int)]
  refine ⟨rfl, fun x hx => by rw [List.mem_singleton.1 hx]; exact hn, fun _ => ⟨w.heap.size, 0, rfl, h.lt, fun i hi => ?_⟩⟩
  have : i = 0 := by omega
  subst this
  exact h.cell 0
end Go.Proofs.YtknehglahdkafaaDoor
