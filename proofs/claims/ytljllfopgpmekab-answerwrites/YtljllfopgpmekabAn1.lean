/- Answers in memory. -/
import Derived.Test.YtljllfopgpmekabAn0
import Derived.Test.YtljllfopgpmekabSeq0
-- prune
namespace Go.Proofs.Ytljllfopgpmekab
open Go.ChangeShapes Go.WideShapes Go.ChangeAt Go.RowKit
set_option linter.unusedVariables false

def tdC (t : Td) : List Value := [.int .i64 t.code, .bool t.al, .int .i64 t.rem, .int .i64 t.ret, .int .i64 t.res]
def nmC (n : Nm) : List Value := [.int .i64 n.book, .string n.key]
theorem tdC_len (t : Td) : (tdC t).length = 5 := rfl
theorem nmC_len (t : Nm) : (nmC t).length = 2 := rfl
theorem tdC_one (t : Td) : ∀ u ∈ tdC t, u.oneCell' = true := by
  intro u hu
  simp only [tdC, List.mem_cons, List.not_mem_nil, or_false] at hu
  rcases hu with rfl | rfl | rfl | rfl | rfl <;> rfl
theorem nmC_one (t : Nm) : ∀ u ∈ nmC t, u.oneCell' = true := by
  intro u hu
  simp only [nmC, List.mem_cons, List.not_mem_nil, or_false] at hu
  rcases hu with rfl | rfl <;> rfl
/-- An answer's cells; its two lists lie at A and at N. -/
def anC (a : An) (A : Option Addr) (ca : Nat) (N : Option Addr) (cn : Nat) : List Value :=
  [.int .i64 a.kind, .int .i64 a.code, .slice A a.told.length ca, .int .i64 a.ver, .int .i64 a.pk, .int .i64 a.pl, .int .i64 a.pw, .int .i64 a.pb, .int .i64 a.now, .int .i64 a.count, .slice N a.names.length cn]
structure AnAt (w : World) (a : An) (A : Option Addr) (ca : Nat) (N : Option Addr) (cn : Nat) : Prop where
  t1 : a.told.length ≤ ca
  t2 : ca ≤ maxLen
  n1 : a.names.length ≤ cn
  n2 : cn ≤ maxLen
  ts : SeqAt tdC 5 w A a.told
  ns : SeqAt nmC 2 w N a.names
  ks : ∀ n ∈ a.names, n.key.size ≤ maxLen
theorem AnAt.below {w w' : World} {a : An} {A N : Option Addr} {ca cn : Nat} (h : AnAt w a A ca N cn) (hb : Below w.heap.size w w') : AnAt w' a A ca N cn :=
  ⟨h.t1, h.t2, h.n1, h.n2, h.ts.below hb, h.ns.below hb, h.ks⟩
/-- An answer as a value. -/
def IsAn (w : World) (v : Value) (a : An) : Prop := ∃ A ca N cn, v = .agg (anC a A ca N cn).toArray ∧ AnAt w a A ca N cn
theorem IsAn.below {w w' : World} {v : Value} {a : An} (h : IsAn w v a) (hb : Below w.heap.size w w') : IsAn w' v a := by
  obtain ⟨A, ca, N, cn, e, h⟩ := h
  exact ⟨A, ca, N, cn, e, h.below hb⟩
end Go.Proofs.Ytljllfopgpmekab
