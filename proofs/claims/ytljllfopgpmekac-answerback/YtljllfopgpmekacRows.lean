/-
  No cell of these rows narrows 'for every input' (looked for: loops, veiled, ifaces, maps, wideKeys, modest, calm, conditions, laid).
  DERIVED. THE GIVEN ROWS OF THIS SEAT. 3 by the template 'for every input the law returns true; each argument reads behind the call as it read before'; 0 by the template 'total and deterministic' (their statements: YtljllfopgpmekacTotals.lean).
  GIVEN WITH THE SEED: the statements are not yours to turn. If you find one false, say at which input.
  Laid BY PROGRAM, IN A SANDBOX (cutbox-rows.mjs): the forced cells as the released guide's own fill.sh prints them over the translation a0195b3f46aa067c… (all of the seat's roots in one cut). By AI agents, Wed Nov 11 2026. No macro, syntax, notation, axiom, sorry.
-/
import Derived.Test.YtljllfopgpmekacChecked
import GoSem.Claim
import GoSem.ClaimJoined
import GoSem.ClaimMapViews
import Derived.JoinedTies
import Derived.KernelRfl
namespace Go.Proofs.Ytljllfopgpmekac
/- THE CELL 'sum', in the pinned program and in every row, IS THE sha256 OF THE DUMP (.gsa) THAT YtljllfopgpmekacProg.lean LOADS. Nothing in Lean hashes anything: it is a label: what it is worth is what the hold of that sum in a sandbox is worth. -/
noncomputable def Try.pinned : Pinned := { name := "ytljllfopgpmekac", sum := "a0195b3f46aa067c5ae762585174df7c18fdce3a7e5894e6660f3483a8cfadeb", checked := Try.checked }
namespace Rows
def none {H : Type} : Left H := { results := [], args := [] }

/-- 'sandglasslaw22.AnswerBack': WHATEVER THE INPUT: true; the input reads as it did. -/
def answerBackSpec : ChangeSpec := { name := "answerBack", fn := fun _ => fun
  | [d1, d2, d3] => { results := [.lit (.bool true)], args := [d1, d2, d3] }
  | _ => none }
def answerBackRow : OpenClaim := { program := "ytljllfopgpmekac", sum := "a0195b3f46aa067c5ae762585174df7c18fdce3a7e5894e6660f3483a8cfadeb", func := "sandglass/sandglasslaw22.AnswerBack", spec := "answerBack", inPlace := ["internal/abi.NoEscape"], apart := false }
def AnswerBackSaid : Prop := answerBackRow.holds Try.pinned (OpenSpec.ofChange answerBackSpec)

/-- ITS FALSE NEIGHBOUR: 'it returns false'. Refute it at one input. -/
def answerBackWrong : ChangeSpec := { name := "answerBack", fn := fun _ => fun
  | [d1, d2, d3] => { results := [.lit (.bool false)], args := [d1, d2, d3] }
  | _ => none }
def AnswerBackWrongFalsely : Prop := answerBackRow.holds Try.pinned (OpenSpec.ofChange answerBackWrong)

/-- 'sandglasslaw22.AnswerApart': WHATEVER THE INPUT: true; the input reads as it did. -/
def answerApartSpec : ChangeSpec := { name := "answerApart", fn := fun _ => fun
  | [d1, d2] => { results := [.lit (.bool true)], args := [d1, d2] }
  | _ => none }
def answerApartRow : OpenClaim := { program := "ytljllfopgpmekac", sum := "a0195b3f46aa067c5ae762585174df7c18fdce3a7e5894e6660f3483a8cfadeb", func := "sandglass/sandglasslaw22.AnswerApart", spec := "answerApart", inPlace := ["internal/abi.NoEscape"], apart := false }
def AnswerApartSaid : Prop := answerApartRow.holds Try.pinned (OpenSpec.ofChange answerApartSpec)

/-- ITS FALSE NEIGHBOUR: 'it returns false'. Refute it at one input. -/
def answerApartWrong : ChangeSpec := { name := "answerApart", fn := fun _ => fun
  | [d1, d2] => { results := [.lit (.bool false)], args := [d1, d2] }
  | _ => none }
def AnswerApartWrongFalsely : Prop := answerApartRow.holds Try.pinned (OpenSpec.ofChange answerApartWrong)

/-- 'sandglasslaw22.AnswerLength': WHATEVER THE INPUT: true; the input reads as it did. -/
def answerLengthSpec : ChangeSpec := { name := "answerLength", fn := fun _ => fun
  | [d] => { results := [.lit (.bool true)], args := [d] }
  | _ => none }
def answerLengthRow : OpenClaim := { program := "ytljllfopgpmekac", sum := "a0195b3f46aa067c5ae762585174df7c18fdce3a7e5894e6660f3483a8cfadeb", func := "sandglass/sandglasslaw22.AnswerLength", spec := "answerLength", inPlace := ["internal/abi.NoEscape"], apart := false }
def AnswerLengthSaid : Prop := answerLengthRow.holds Try.pinned (OpenSpec.ofChange answerLengthSpec)

/-- ITS FALSE NEIGHBOUR: 'it returns false'. Refute it at one input. -/
def answerLengthWrong : ChangeSpec := { name := "answerLength", fn := fun _ => fun
  | [d] => { results := [.lit (.bool false)], args := [d] }
  | _ => none }
def AnswerLengthWrongFalsely : Prop := answerLengthRow.holds Try.pinned (OpenSpec.ofChange answerLengthWrong)

/- THE SECOND FORM. 'bulk': how many values and letters a reading holds, each counted each time it is reached (what is shared counts as often as it is met; a slice's spare places count too). A statement '..UptoSaid' is the law's where the arguments, and the package variables that the reading takes, are together of bulk at most 1048576: NARROWER than '..Said'. Prove '..Said' where nothing that the law and all that it calls make is longer than what came in: it says more and counts as full. Else prove '..UptoSaid'. A law counts once. -/
mutual
def uptoBulk {H : Type} : DataW H → Nat
  | .lit (.string bytes) => bytes.length + 1
  | .lit _ => 1
  | .nil => 1
  | .ptr d => uptoBulk d + 1
  | .slice elems spare => uptoBulkAll elems + uptoBulkAll spare + 1
  | .agg parts => uptoBulkAll parts + 1
  | .iface _ d => uptoBulk d + 1
  | .map entries => uptoBulkEntries entries + 1
  | .held _ => 1
def uptoBulkAll {H : Type} : List (DataW H) → Nat
  | [] => 0
  | d :: r => uptoBulk d + uptoBulkAll r
def uptoBulkEntries {H : Type} : List (Lit × DataW H) → Nat
  | [] => 0
  | x :: r => uptoBulkEntry x + uptoBulkEntries r
def uptoBulkEntry {H : Type} : Lit × DataW H → Nat
  | (.string bytes, d) => bytes.length + uptoBulk d + 1
  | (_, d) => uptoBulk d + 1
 end
def uptoSmall : (H : Type) → List (DataW H) → Bool := fun _ ds => decide (uptoBulkAll ds ≤ 1048576)
def OpenSpec.upto (s : _root_.Go.ChangeSpec) : _root_.Go.OpenSpec := { _root_.Go.OpenSpec.ofChange s with cond := some uptoSmall }

/-- 'sandglasslaw22.AnswerBack', WHERE WHAT IT READS IS OF BULK AT MOST 1048576: true; the input reads as it did. -/
def answerBackUptoRow : OpenClaim := { program := "ytljllfopgpmekac", sum := "a0195b3f46aa067c5ae762585174df7c18fdce3a7e5894e6660f3483a8cfadeb", func := "sandglass/sandglasslaw22.AnswerBack", spec := "answerBack", inPlace := ["internal/abi.NoEscape"], apart := false, narrowed := true }
def AnswerBackUptoSaid : Prop := answerBackUptoRow.holds Try.pinned (OpenSpec.upto answerBackSpec)

/-- 'sandglasslaw22.AnswerApart', WHERE WHAT IT READS IS OF BULK AT MOST 1048576: true; the input reads as it did. -/
def answerApartUptoRow : OpenClaim := { program := "ytljllfopgpmekac", sum := "a0195b3f46aa067c5ae762585174df7c18fdce3a7e5894e6660f3483a8cfadeb", func := "sandglass/sandglasslaw22.AnswerApart", spec := "answerApart", inPlace := ["internal/abi.NoEscape"], apart := false, narrowed := true }
def AnswerApartUptoSaid : Prop := answerApartUptoRow.holds Try.pinned (OpenSpec.upto answerApartSpec)

/-- 'sandglasslaw22.AnswerLength', WHERE WHAT IT READS IS OF BULK AT MOST 1048576: true; the input reads as it did. -/
def answerLengthUptoRow : OpenClaim := { program := "ytljllfopgpmekac", sum := "a0195b3f46aa067c5ae762585174df7c18fdce3a7e5894e6660f3483a8cfadeb", func := "sandglass/sandglasslaw22.AnswerLength", spec := "answerLength", inPlace := ["internal/abi.NoEscape"], apart := false, narrowed := true }
def AnswerLengthUptoSaid : Prop := answerLengthUptoRow.holds Try.pinned (OpenSpec.upto answerLengthSpec)

end Rows
end Go.Proofs.Ytljllfopgpmekac
