/- A reader of frames as a machine over bytes, and the document's reading of all bytes: pure. -/
import Derived.Test.YtgcdminjpdbchabMem2
namespace Go.Proofs.Ytgcdminjpdbchab
set_option linter.unusedVariables false

/-- A piece: a text, or an error's number. -/
abbrev Pc := ByteArray × Int
/-- A reader: 0 a head, 1 a text, 2 what is passed over; what is kept; how many bytes are missing. -/
structure FrS where
  m : Nat
  k : List UInt8
  x : Nat
def FrS.new : FrS := ⟨0, [], 0⟩
def goodN (n : Nat) : Bool := decide (1 ≤ n) && decide (n ≤ 512)
def lenN (a b : UInt8) : Nat := 256 * a.toNat + b.toNat
def badS (n : Nat) : FrS := ⟨if n = 0 then 0 else 2, [], n⟩
def bigP : Pc := (⟨#[]⟩, 8)
def textP (l : List UInt8) : Pc := (⟨l.toArray⟩, 0)
/-- A byte of a head, of a text, of what is passed over. -/
def head1 (k : List UInt8) (b : UInt8) : FrS × Option Pc :=
  match k with
  | [] => (⟨0, [b], 0⟩, none)
  | a :: _ => if goodN (lenN a b) then (⟨1, [a, b], lenN a b⟩, none) else (badS (lenN a b), some bigP)
def text1 (k : List UInt8) (x : Nat) (b : UInt8) : FrS × Option Pc :=
  if x ≤ 1 then (FrS.new, some (textP ((k ++ [b]).drop 2))) else (⟨1, k ++ [b], x - 1⟩, none)
def over1 (x : Nat) : FrS × Option Pc := if x ≤ 1 then (FrS.new, none) else (⟨2, [], x - 1⟩, none)
def FrS.step (s : FrS) (b : UInt8) : FrS × Option Pc :=
  if s.m = 0 then head1 s.k b else if s.m = 1 then text1 s.k s.x b else over1 s.x
def FrS.run : FrS → List UInt8 → FrS × List Pc
  | s, [] => (s, [])
  | s, b :: t => ((FrS.run (s.step b).1 t).1, (s.step b).2.toList ++ (FrS.run (s.step b).1 t).2)
/-- A reader that may be. -/
def FrS.ok (s : FrS) : Prop := (s.m = 0 ∧ s.k.length ≤ 1 ∧ s.x = 0) ∨ (s.m = 1 ∧ 2 ≤ s.k.length ∧ 1 ≤ s.x ∧ s.k.length - 2 + s.x ≤ 512) ∨ (s.m = 2 ∧ s.k = [] ∧ 1 ≤ s.x ∧ s.x ≤ 65535)
theorem ok_new : FrS.new.ok := .inl ⟨rfl, by decide, rfl⟩
theorem lenN_lt (a b : UInt8) : lenN a b ≤ 65535 := by unfold lenN; have := a.toNat_lt; have := b.toNat_lt; omega
theorem badS_ok {n : Nat} (h : n ≤ 65535) : (badS n).ok := by
  unfold badS FrS.ok
  by_cases e : n = 0
  · subst e; exact .inl ⟨rfl, by simp, rfl⟩
  · rw [if_neg e]; exact .inr (.inr ⟨rfl, rfl, Nat.one_le_iff_ne_zero.2 e, h⟩)
theorem FrS.ok.step {s : FrS} (h : s.ok) (b : UInt8) : (s.step b).1.ok := by
  obtain ⟨m, k, x⟩ := s
  rcases h with ⟨h1, h2, h3⟩ | ⟨h1, h2, h3, h4⟩ | ⟨h1, h2, h3, h4⟩
  · simp only at h1 h2 h3
    subst h1; subst h3
    unfold FrS.step
    rw [if_pos rfl]
    match k, h2 with
    | [], _ => exact .inl ⟨rfl, Nat.le_refl 1, rfl⟩
    | [a], _ =>
      unfold head1
      simp only
      by_cases e : goodN (lenN a b) = true
      · rw [if_pos e]
        unfold goodN at e
        simp only [Bool.and_eq_true, decide_eq_true_eq] at e
        exact .inr (.inl ⟨rfl, by simp, e.1, by simp; omega⟩)
      · rw [if_neg e]
        exact badS_ok (lenN_lt a b)
  · simp only at h1 h2 h3 h4
    subst h1
    unfold FrS.step
    rw [if_neg (by simp), if_pos rfl]
    unfold text1
    simp only
    by_cases e : x ≤ 1
    · rw [if_pos e]; exact ok_new
    · rw [if_neg e]; exact .inr (.inl ⟨rfl, by simp; omega, by simp; omega, by simp; omega⟩)
  · simp only at h1 h2 h3 h4
    subst h1
    unfold FrS.step
    rw [if_neg (by simp), if_neg (by simp)]
    unfold over1
    simp only
    by_cases e : x ≤ 1
    · rw [if_pos e]; exact ok_new
    · rw [if_neg e]; exact .inr (.inr ⟨rfl, rfl, by simp; omega, by simp; omega⟩)
theorem run_ok : ∀ (l : List UInt8) (s : FrS), s.ok → (s.run l).1.ok
  | [], _, h => h
  | b :: t, s, h => run_ok t _ (h.step b)
theorem run_append : ∀ (l t : List UInt8) (s : FrS), s.run (l ++ t) = (((s.run l).1.run t).1, (s.run l).2 ++ ((s.run l).1.run t).2)
  | [], t, s => by simp [FrS.run]
  | b :: l, t, s => by
    have := run_append l t (s.step b).1
    simp only [List.cons_append, FrS.run, this, List.append_assoc]
theorem run_snoc (l : List UInt8) (b : UInt8) (s : FrS) : s.run (l ++ [b]) = (((s.run l).1.step b).1, (s.run l).2 ++ ((s.run l).1.step b).2.toList) := by
  rw [run_append]; simp [FrS.run]
theorem run_len : ∀ (l : List UInt8) (s : FrS), (s.run l).2.length ≤ l.length
  | [], _ => Nat.le_refl _
  | b :: t, s => by
    have := run_len t (s.step b).1
    have h2 : (s.step b).2.toList.length ≤ 1 := by cases (s.step b).2 <;> simp
    simp only [FrS.run, List.length_append, List.length_cons]; omega
theorem step_over (x : Nat) (b : UInt8) : FrS.step ⟨2, [], x⟩ b = over1 x := rfl
theorem step_text (k : List UInt8) (x : Nat) (b : UInt8) : FrS.step ⟨1, k, x⟩ b = text1 k x b := rfl
theorem run_over : ∀ (t : List UInt8) (n : Nat), 1 ≤ n → FrS.run ⟨2, [], n⟩ t = if t.length < n then (⟨2, [], n - t.length⟩, []) else FrS.run FrS.new (t.drop n)
  | [], n, h => by simp [FrS.run]; omega
  | b :: t, n, h => by
    simp only [FrS.run, step_over]
    unfold over1
    by_cases e : n ≤ 1
    · have : n = 1 := by omega
      subst this
      simp
    · rw [if_neg e]
      simp only [Option.toList_none, List.nil_append]
      rw [run_over t (n - 1) (by omega)]
      obtain ⟨m, rfl⟩ : ∃ m, n = m + 1 := ⟨n - 1, by omega⟩
      simp only [Nat.add_sub_cancel, List.length_cons, List.drop_succ_cons, Nat.add_lt_add_iff_right, Nat.add_sub_add_right]
theorem run_text : ∀ (t k : List UInt8) (n : Nat), 1 ≤ n → FrS.run ⟨1, k, n⟩ t = if t.length < n then (⟨1, k ++ t, n - t.length⟩, []) else ((FrS.run FrS.new (t.drop n)).1, textP ((k ++ t.take n).drop 2) :: (FrS.run FrS.new (t.drop n)).2)
  | [], k, n, h => by simp [FrS.run]; omega
  | b :: t, k, n, h => by
    simp only [FrS.run, step_text]
    unfold text1
    by_cases e : n ≤ 1
    · have : n = 1 := by omega
      subst this
      simp
    · rw [if_neg e]
      simp only [Option.toList_none, List.nil_append]
      rw [run_text t (k ++ [b]) (n - 1) (by omega)]
      obtain ⟨m, rfl⟩ : ∃ m, n = m + 1 := ⟨n - 1, by omega⟩
      simp only [Nat.add_sub_cancel, List.length_cons, List.drop_succ_cons, Nat.add_lt_add_iff_right, Nat.add_sub_add_right, List.take_succ_cons, List.append_assoc, List.singleton_append]
/-- The document's pieces of all bytes, and how many are left. -/
def parseL : List UInt8 → List Pc × Nat
  | [] => ([], 0)
  | [_] => ([], 1)
  | a :: b :: t =>
    if goodN (lenN a b) then
      if t.length < lenN a b then ([], t.length + 2) else (textP (t.take (lenN a b)) :: (parseL (t.drop (lenN a b))).1, (parseL (t.drop (lenN a b))).2)
    else (bigP :: (parseL (t.drop (lenN a b))).1, (parseL (t.drop (lenN a b))).2)
termination_by l => l.length
decreasing_by all_goals simp; omega
theorem parse_0 : parseL [] = ([], 0) := by rw [parseL]
theorem parse_1 (a : UInt8) : parseL [a] = ([], 1) := by rw [parseL]
theorem parse_2 (a b : UInt8) (t : List UInt8) : parseL (a :: b :: t) = if goodN (lenN a b) then
      if t.length < lenN a b then ([], t.length + 2) else (textP (t.take (lenN a b)) :: (parseL (t.drop (lenN a b))).1, (parseL (t.drop (lenN a b))).2)
    else (bigP :: (parseL (t.drop (lenN a b))).1, (parseL (t.drop (lenN a b))).2) := by rw [parseL]
theorem run_2 (a b : UInt8) (t : List UInt8) : FrS.new.run (a :: b :: t) = if goodN (lenN a b) then FrS.run ⟨1, [a, b], lenN a b⟩ t else ((FrS.run (badS (lenN a b)) t).1, bigP :: (FrS.run (badS (lenN a b)) t).2) := by
  have h1 : FrS.step FrS.new a = (⟨0, [a], 0⟩, none) := rfl
  have h2 : FrS.step ⟨0, [a], 0⟩ b = head1 [a] b := rfl
  simp only [FrS.run, h1, h2]
  unfold head1
  by_cases e : goodN (lenN a b) = true
  · simp [e]
  · simp [e]
theorem run_bad (n : Nat) (t : List UInt8) : (FrS.run (badS n) t).2 = (FrS.run FrS.new (t.drop n)).2 ∧ (FrS.run (badS n) t).1.k = (FrS.run FrS.new (t.drop n)).1.k := by
  unfold badS
  by_cases e : n = 0
  · subst e; exact ⟨rfl, rfl⟩
  · rw [if_neg e, run_over t n (by omega)]
    by_cases q : t.length < n
    · rw [if_pos q, List.drop_eq_nil_of_le (by omega)]; exact ⟨rfl, rfl⟩
    · rw [if_neg q]; exact ⟨rfl, rfl⟩
theorem goodN_pos {n : Nat} (h : goodN n = true) : 1 ≤ n := by unfold goodN at h; simp at h; exact h.1
theorem run_parse : ∀ (n : Nat) (l : List UInt8), l.length ≤ n → (FrS.new.run l).2 = (parseL l).1 ∧ (FrS.new.run l).1.k.length = (parseL l).2
  | n, [], _ => by rw [parse_0]; exact ⟨rfl, rfl⟩
  | n, [a], _ => by rw [parse_1]; exact ⟨rfl, rfl⟩
  | 0, a :: b :: t, h => by simp at h
  | n + 1, a :: b :: t, h => by
    have ih := run_parse n (t.drop (lenN a b)) (by simp at h; simp; omega)
    rw [run_2, parse_2]
    by_cases e : goodN (lenN a b) = true
    · rw [if_pos e, if_pos e, run_text t _ _ (goodN_pos e)]
      by_cases q : t.length < lenN a b
      · rw [if_pos q, if_pos q]; exact ⟨rfl, by simp⟩
      · rw [if_neg q, if_neg q]
        exact ⟨by rw [ih.1]; rfl, ih.2⟩
    · rw [if_neg e, if_neg e]
      obtain ⟨h1, h2⟩ := run_bad (lenN a b) t
      exact ⟨by simp only [h1, ih.1], by simp only [h2, ih.2]⟩
/-- Pieces without an error, and nothing left: as a new one. -/
theorem run_new : ∀ (n : Nat) (l : List UInt8), l.length ≤ n → (∀ p ∈ (parseL l).1, p.2 = 0) → (parseL l).2 = 0 → (FrS.new.run l).1 = FrS.new
  | n, [], _, _, _ => rfl
  | n, [a], _, _, h => by rw [parse_1] at h; cases h
  | 0, a :: b :: t, h, _, _ => by simp at h
  | n + 1, a :: b :: t, h, h1, h2 => by
    have ih := run_new n (t.drop (lenN a b)) (by simp at h; simp; omega)
    rw [parse_2] at h1 h2
    rw [run_2]
    by_cases e : goodN (lenN a b) = true
    · rw [if_pos e] at h1 h2
      rw [if_pos e, run_text t _ _ (goodN_pos e)]
      by_cases q : t.length < lenN a b
      · rw [if_pos q] at h2; simp at h2
      · rw [if_neg q] at h1 h2
        rw [if_neg q]
        exact ih (fun p hp => h1 p (by simp [hp])) h2
    · rw [if_neg e] at h1
      have := h1 bigP (by simp)
      exact absurd this (by decide)
end Go.Proofs.Ytgcdminjpdbchab
