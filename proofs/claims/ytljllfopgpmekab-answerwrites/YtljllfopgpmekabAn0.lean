/- An answer, its bytes, and how they are read: as functions, apart from all memory. -/
import Derived.Test.YtljllfopgpmekabBy0
namespace Go.Proofs.Ytljllfopgpmekab
open Go.ChangeShapes Go.WideShapes Go.ChangeAt Go.RowKit
set_option linter.unusedVariables false

/-- What is told of an ask. -/
structure Td where
  code : Int
  al : Bool
  rem : Int
  ret : Int
  res : Int
/-- A key by its book. -/
structure Nm where
  book : Int
  key : ByteArray
structure An where
  kind : Int
  code : Int
  told : List Td
  ver : Int
  pk : Int
  pl : Int
  pw : Int
  pb : Int
  now : Int
  count : Int
  names : List Nm
def flN (b : Bool) : Int := if b then 1 else 0
def tdB (t : Td) : List UInt8 := nB t.code 1 ++ (nB (flN t.al) 1 ++ (nB t.rem 4 ++ (nB t.ret 6 ++ nB t.res 6)))
def nmB (n : Nm) : List UInt8 := nB n.book 1 ++ tB n.key
def plB (k l v b : Int) : List UInt8 := nB k 1 ++ (nB l 4 ++ (nB v 4 ++ nB b 1))
/-- The bytes of an answer (of one that may not be, something). -/
def anB (a : An) : List UInt8 :=
  nB a.kind 1 ++ (nB a.code 1 ++ (nB a.ver 4 ++ (plB a.pk a.pl a.pw a.pb ++ (nB a.now 6 ++ (nB a.count 2 ++ (nB a.told.length 1 ++ ((a.told.take 32).flatMap tdB ++ (nB a.names.length 1 ++ (a.names.take 32).flatMap nmB))))))))
def TdOk (t : Td) : Prop := Fit t.code 1 ∧ Fit t.rem 4 ∧ Fit t.ret 6 ∧ Fit t.res 6
def NmOk (n : Nm) : Prop := Fit n.book 1 ∧ n.key.size ≤ 255
structure AnOk (a : An) : Prop where
  kind : Fit a.kind 1
  code : Fit a.code 1
  ver : Fit a.ver 4
  pk : Fit a.pk 1
  pl : Fit a.pl 4
  pw : Fit a.pw 4
  pb : Fit a.pb 1
  now : Fit a.now 6
  count : Fit a.count 2
  told : a.told.length ≤ 32
  names : a.names.length ≤ 32
  tds : ∀ t ∈ a.told, TdOk t
  nms : ∀ n ∈ a.names, NmOk n
noncomputable instance (a : An) : Decidable (AnOk a) := Classical.propDecidable _
def rdTd (l : List UInt8) : Td × List UInt8 :=
  (⟨(rdN 1 l).1, (rdN 1 (rdN 1 l).2).1 == 1, (rdN 4 (rdN 1 (rdN 1 l).2).2).1, (rdN 6 (rdN 4 (rdN 1 (rdN 1 l).2).2).2).1, (rdN 6 (rdN 6 (rdN 4 (rdN 1 (rdN 1 l).2).2).2).2).1⟩, (rdN 6 (rdN 6 (rdN 4 (rdN 1 (rdN 1 l).2).2).2).2).2)
def rdNm (l : List UInt8) : Nm × List UInt8 := (⟨(rdN 1 l).1, (rdT (rdN 1 l).2).1⟩, (rdT (rdN 1 l).2).2)
/-- The bytes behind the first parts of an answer. -/
def an1 (l : List UInt8) : List UInt8 := (rdN 1 l).2
def an2 (l : List UInt8) : List UInt8 := (rdN 1 (an1 l)).2
def an3 (l : List UInt8) : List UInt8 := (rdN 4 (an2 l)).2
def an4 (l : List UInt8) : List UInt8 := (rdN 1 (an3 l)).2
def an5 (l : List UInt8) : List UInt8 := (rdN 4 (an4 l)).2
def an6 (l : List UInt8) : List UInt8 := (rdN 4 (an5 l)).2
def an7 (l : List UInt8) : List UInt8 := (rdN 1 (an6 l)).2
def an8 (l : List UInt8) : List UInt8 := (rdN 6 (an7 l)).2
def an9 (l : List UInt8) : List UInt8 := (rdN 2 (an8 l)).2
def an10 (l : List UInt8) : List UInt8 := (rdN 1 (an9 l)).2
def an11 (l : List UInt8) : List UInt8 := (rdR rdTd (min (rdN 1 (an9 l)).1 32).toNat (an10 l)).2
def an12 (l : List UInt8) : List UInt8 := (rdN 1 (an11 l)).2
def an13 (l : List UInt8) : List UInt8 := (rdR rdNm (min (rdN 1 (an11 l)).1 32).toNat (an12 l)).2
/-- The answer that is read out of bytes. -/
def rdAn (l : List UInt8) : An :=
  ⟨(rdN 1 l).1, (rdN 1 (an1 l)).1, (rdR rdTd (min (rdN 1 (an9 l)).1 32).toNat (an10 l)).1, (rdN 4 (an2 l)).1, (rdN 1 (an3 l)).1, (rdN 4 (an4 l)).1, (rdN 4 (an5 l)).1, (rdN 1 (an6 l)).1, (rdN 6 (an7 l)).1, (rdN 2 (an8 l)).1, (rdR rdNm (min (rdN 1 (an11 l)).1 32).toNat (an12 l)).1⟩
theorem fl_fit (b : Bool) : Fit (flN b) 1 := by cases b <;> decide
theorem rdTd_back (t : Td) (l : List UInt8) (h : TdOk t) : rdTd (tdB t ++ l) = (t, l) := by
  obtain ⟨h1, h2, h3, h4⟩ := h
  unfold rdTd tdB
  simp only [List.append_assoc]
  simp only [rdN_nB h1 (by decide), rdN_nB (fl_fit t.al) (by decide), rdN_nB h2 (by decide), rdN_nB h3 (by decide), rdN_nB h4 (by decide)]
  cases t with
  | mk c a r e s => cases a <;> rfl
theorem rdTd_ok (l : List UInt8) : TdOk (rdTd l).1 := ⟨rdN_fit _ _, rdN_fit _ _, rdN_fit _ _, rdN_fit _ _⟩
theorem rdNm_back (n : Nm) (l : List UInt8) (h : NmOk n) : rdNm (nmB n ++ l) = (n, l) := by
  obtain ⟨h1, h2⟩ := h
  unfold rdNm nmB
  simp only [List.append_assoc]
  simp only [rdN_nB h1 (by decide), rdT_tB h2]
theorem rdNm_ok (l : List UInt8) : NmOk (rdNm l).1 := ⟨rdN_fit _ _, rdT_fit _⟩
theorem min_le32 {α : Type} {f : List UInt8 → α × List UInt8} {x : Int} {l : List UInt8} : (rdR f (min x 32).toNat l).1.length ≤ 32 := by rw [rdR_len]; omega
theorem rdAn_ok (l : List UInt8) : AnOk (rdAn l) where
  kind := by simp only [rdAn]; exact rdN_fit 1 l
  code := by simp only [rdAn]; exact rdN_fit 1 (an1 l)
  ver := by simp only [rdAn]; exact rdN_fit 4 (an2 l)
  pk := by simp only [rdAn]; exact rdN_fit 1 (an3 l)
  pl := by simp only [rdAn]; exact rdN_fit 4 (an4 l)
  pw := by simp only [rdAn]; exact rdN_fit 4 (an5 l)
  pb := by simp only [rdAn]; exact rdN_fit 1 (an6 l)
  now := by simp only [rdAn]; exact rdN_fit 6 (an7 l)
  count := by simp only [rdAn]; exact rdN_fit 2 (an8 l)
  told := by simp only [rdAn]; exact min_le32 (f := rdTd) (x := (rdN 1 (an9 l)).1) (l := an10 l)
  names := by simp only [rdAn]; exact min_le32 (f := rdNm) (x := (rdN 1 (an11 l)).1) (l := an12 l)
  tds := by simp only [rdAn]; exact rdR_all rdTd_ok (min (rdN 1 (an9 l)).1 32).toNat (an10 l)
  nms := by simp only [rdAn]; exact rdR_all rdNm_ok (min (rdN 1 (an11 l)).1 32).toNat (an12 l)
theorem fit_len {α : Type} {xs : List α} (h : xs.length ≤ 32) : Fit (xs.length : Int) 1 := by
  have e : (256 : Nat) ^ 1 = 256 := by decide
  unfold Fit; omega
theorem min_len {α : Type} {xs : List α} (h : xs.length ≤ 32) : (min (xs.length : Int) 32).toNat = xs.length := by omega
/-- What is written is read, whatever stands behind it. -/
theorem anS_back {a : An} (h : AnOk a) (r : List UInt8) :
    an1 (anB a ++ r) = nB a.code 1 ++ (nB a.ver 4 ++ (nB a.pk 1 ++ (nB a.pl 4 ++ (nB a.pw 4 ++ (nB a.pb 1 ++ (nB a.now 6 ++ (nB a.count 2 ++ (nB a.told.length 1 ++ (a.told.flatMap tdB ++ (nB a.names.length 1 ++ (a.names.flatMap nmB ++ r))))))))))) := by
  unfold anB plB
  rw [List.take_of_length_le h.told, List.take_of_length_le h.names]
  simp only [List.append_assoc]
  show (rdN 1 _).2 = _
  rw [rdN_nB h.kind (by decide)]
theorem rdAn_back {a : An} (h : AnOk a) (r : List UInt8) : rdAn (anB a ++ r) = a ∧ an13 (anB a ++ r) = r := by
  have e0 : (rdN 1 (anB a ++ r)).1 = a.kind := by
    unfold anB
    simp only [List.append_assoc]
    rw [rdN_nB h.kind (by decide)]
  have e1 := anS_back h r
  generalize hL : anB a ++ r = L at *
  have s2 := show an2 L = (rdN 1 (an1 L)).2 from rfl
  rw [e1, rdN_nB h.code (by decide)] at s2
  have s3 := show an3 L = (rdN 4 (an2 L)).2 from rfl
  rw [s2, rdN_nB h.ver (by decide)] at s3
  have s4 := show an4 L = (rdN 1 (an3 L)).2 from rfl
  rw [s3, rdN_nB h.pk (by decide)] at s4
  have s5 := show an5 L = (rdN 4 (an4 L)).2 from rfl
  rw [s4, rdN_nB h.pl (by decide)] at s5
  have s6 := show an6 L = (rdN 4 (an5 L)).2 from rfl
  rw [s5, rdN_nB h.pw (by decide)] at s6
  have s7 := show an7 L = (rdN 1 (an6 L)).2 from rfl
  rw [s6, rdN_nB h.pb (by decide)] at s7
  have s8 := show an8 L = (rdN 6 (an7 L)).2 from rfl
  rw [s7, rdN_nB h.now (by decide)] at s8
  have s9 := show an9 L = (rdN 2 (an8 L)).2 from rfl
  rw [s8, rdN_nB h.count (by decide)] at s9
  have s10 := show an10 L = (rdN 1 (an9 L)).2 from rfl
  rw [s9, rdN_nB (fit_len h.told) (by decide)] at s10
  have n9 : (min (rdN 1 (an9 L)).1 32).toNat = a.told.length := by rw [s9, rdN_nB (fit_len h.told) (by decide)]; exact min_len h.told
  have s11 := show an11 L = (rdR rdTd (min (rdN 1 (an9 L)).1 32).toNat (an10 L)).2 from rfl
  rw [n9, s10, rdR_back rdTd_back a.told _ h.tds] at s11
  have s12 := show an12 L = (rdN 1 (an11 L)).2 from rfl
  rw [s11, rdN_nB (fit_len h.names) (by decide)] at s12
  have n11 : (min (rdN 1 (an11 L)).1 32).toNat = a.names.length := by rw [s11, rdN_nB (fit_len h.names) (by decide)]; exact min_len h.names
  constructor
  · unfold rdAn
    rw [n9, n11, e0, e1, s2, s3, s4, s5, s6, s7, s8, s10, s12]
    rw [rdN_nB h.code (by decide), rdN_nB h.ver (by decide), rdN_nB h.pk (by decide), rdN_nB h.pl (by decide), rdN_nB h.pw (by decide), rdN_nB h.pb (by decide), rdN_nB h.now (by decide), rdN_nB h.count (by decide), rdR_back rdTd_back a.told _ h.tds, rdR_back rdNm_back a.names _ h.nms]
  · show (rdR rdNm (min (rdN 1 (an11 L)).1 32).toNat (an12 L)).2 = _
    rw [n11, s12, rdR_back rdNm_back a.names _ h.nms]
/-- Bytes are those of an answer. -/
def IsA (s : List UInt8) (a : An) : Prop := AnOk a ∧ anB a = s ∧ s.length ≤ 512
theorem IsA.read {s : List UInt8} {a : An} (h : IsA s a) : rdAn s = a := by
  obtain ⟨h1, h2, _⟩ := h
  have := (rdAn_back h1 []).1
  rw [List.append_nil, h2] at this
  exact this
theorem IsA.one {s : List UInt8} {a b : An} (h : IsA s a) (k : IsA s b) : a = b := h.read.symm.trans k.read
theorem isA_read {s : List UInt8} (hl : s.length ≤ 512) : (∃ a, IsA s a) ↔ anB (rdAn s) = s :=
  ⟨fun ⟨a, h⟩ => by rw [h.read]; exact h.2.1, fun h => ⟨_, rdAn_ok s, h, hl⟩⟩
theorem anB_apart {a b : An} (ha : AnOk a) (hb : AnOk b) (r t : List UInt8) (h : anB a ++ r = anB b ++ t) : a = b ∧ r = t := by
  obtain ⟨h1, h2⟩ := rdAn_back ha r
  obtain ⟨h3, h4⟩ := rdAn_back hb t
  rw [h] at h1 h2
  exact ⟨h1.symm.trans h3, h2.symm.trans h4⟩
theorem anB_len {a : An} (h : AnOk a) : (anB a).length = 26 + 18 * a.told.length + (a.names.map fun n => 2 + n.key.size).sum := by
  have e1 : ∀ xs : List Td, (xs.flatMap tdB).length = 18 * xs.length := by
    intro xs
    induction xs with
    | nil => rfl
    | cons x xs ih => rw [List.flatMap_cons, List.length_append, ih]; simp [tdB, nB_len]; omega
  have e2 : ∀ xs : List Nm, (∀ x ∈ xs, NmOk x) → (xs.flatMap nmB).length = (xs.map fun n => 2 + n.key.size).sum := by
    intro xs hx
    induction xs with
    | nil => rfl
    | cons x xs ih =>
      rw [List.flatMap_cons, List.length_append, ih (fun y hy => hx y (by simp [hy]))]
      simp [nmB, nB_len, tB_len (hx x (by simp)).2]; omega
  unfold anB plB
  rw [List.take_of_length_le h.told, List.take_of_length_le h.names]
  simp only [List.length_append, nB_len, e1, e2 _ h.nms]
  omega
end Go.Proofs.Ytljllfopgpmekab
