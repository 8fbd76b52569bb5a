/- Policies and texts that are compared. -/
import Derived.Test.YtkdmebgoobenkaaDoorPolLive
import Derived.Lib.Bytes
namespace Go.Proofs.YtkdmebgoobenkaaDoor
open Go.ChangeShapes Go.WideShapes Go.ChangeAt Go.RowKit
theorem pol_eqIn (k l v b k' l' v' b' : Int) (u : World) : (Op.equalIn 10000 23 (.agg #[.int .i64 k, .int .i64 l, .int .i64 v, .int .i64 b]) (.agg #[.int .i64 k', .int .i64 l', .int .i64 v', .int .i64 b'])).run Tryd.prog u = .ok (k == k' && (l == l' && (v == v' && b == b'))) u := by
  go_simp
  by_cases h1 : k = k' <;> by_cases h2 : l = l' <;> by_cases h3 : v = v' <;> by_cases h4 : b = b' <;> simp [h1, h2, h3, h4]
theorem pol_ne {k l v b k' l' v' b' : Int} (hn : ¬ (k = k' ∧ l = l' ∧ v = v' ∧ b = b')) (u : World) : (Op.equalIn 10000 23 (.agg #[.int .i64 k, .int .i64 l, .int .i64 v, .int .i64 b]) (.agg #[.int .i64 k', .int .i64 l', .int .i64 v', .int .i64 b'])).run Tryd.prog u = .ok false u := by
  rw [pol_eqIn]
  congr 1
  simpa using hn
theorem str_inj {a b : ByteArray} (e : a.toList = b.toList) : a = b := by
  rw [Lib.toList_data, Lib.toList_data] at e
  apply ByteArray.ext
  exact Array.ext' e
theorem enc_ne (k l v b : Int) : (encB k l v b).toList.isEmpty = false := by
  have h := encB_size k l v b
  generalize encB k l v b = s at *
  rw [Lib.toList_data]
  cases e : s.data.toList with
  | nil =>
    have : s.data.toList.length = s.size := by simp
    rw [e, h] at this; simp at this
  | cons a b => rfl
theorem str_ne {a b : ByteArray} (h : ¬ a = b) : (a.toList == b.toList) = false := by
  simp only [beq_eq_false_iff_ne, ne_eq]
  exact fun e => h (str_inj e)
end Go.Proofs.YtkdmebgoobenkaaDoor
