/- Rows of structs, cell by cell. -/
import Derived.Test.YtljllfopgpmekabProg
namespace Go.Proofs.Ytljllfopgpmekab
set_option linter.unusedVariables false
theorem flatMap_get {α β : Type} (f : α → List β) (m : Nat) (hm : ∀ a, (f a).length = m) (l : List α) (i j : Nat) (hj : j < m) : (l.flatMap f)[i * m + j]? = (l[i]?).bind fun a => (f a)[j]? := by
  induction l generalizing i with
  | nil => simp
  | cons a l ih =>
    rw [List.flatMap_cons]
    cases i with
    | zero => rw [List.getElem?_append_left (by rw [hm]; omega)]; simp
    | succ i =>
      rw [List.getElem?_append_right (by rw [hm, Nat.add_mul]; omega), hm, show (i + 1) * m + j - m = i * m + j by rw [Nat.add_mul]; omega, ih]
      simp
theorem flatMap_set {α β : Type} (f : α → List β) (m : Nat) (hm : ∀ a, (f a).length = m) (l : List α) (i j : Nat) (hj : j < m) (a a' : α) (v : β) (ha : l[i]? = some a) (hv : (f a).set j v = f a') :
    (l.flatMap f).set (i * m + j) v = (l.set i a').flatMap f := by
  induction l generalizing i with
  | nil => simp at ha
  | cons b l ih =>
    rw [List.flatMap_cons]
    cases i with
    | zero =>
      simp at ha
      subst ha
      rw [List.set_append_left _ _ (by rw [hm]; omega)]
      simp [hv]
    | succ i =>
      rw [List.set_append_right _ _ (by rw [hm, Nat.add_mul]; omega), hm, show (i + 1) * m + j - m = i * m + j by rw [Nat.add_mul]; omega, ih i (by simpa using ha)]
      simp
theorem flatMap_len {α β : Type} (f : α → List β) (m : Nat) (hm : ∀ a, (f a).length = m) (l : List α) : (l.flatMap f).length = l.length * m := by
  induction l with
  | nil => simp
  | cons a l ih => rw [List.flatMap_cons, List.length_append, hm, ih, List.length_cons, Nat.add_mul]; omega

end Go.Proofs.Ytljllfopgpmekab
