/-
  NARROWER THAN 'FOR EVERY INPUT', by the rows' own cells (each row's printed sentence says how): HashSums: laid · HashBack: laid · HashSeeds: laid · HashLast: laid · HashHomes: laid · HashNames: laid.
  DERIVED. THE GIVEN ROWS OF THIS SEAT. 6 by the template 'for every input the law returns true; each argument reads behind the call as it read before'; 0 by the template 'total and deterministic' (their statements: YtdchoaihbjmpbaaDoorTotals.lean).
  GIVEN WITH THE SEED: the statements are not yours to turn. If you find one false, say at which input.
  Laid BY PROGRAM, IN A SANDBOX (cutbox-rows.mjs): the forced cells as the released guide's own fill.sh prints them over the translation cee51162115e40a8… (all of the seat's roots in one cut). By AI agents, Wed Nov 11 2026. No macro, syntax, notation, axiom, sorry.
-/
import Derived.Test.YtdchoaihbjmpbaaDoorChecked
import GoSem.Claim
import GoSem.ClaimJoined
import GoSem.ClaimMapViews
import Derived.JoinedTies
import Derived.KernelRfl
namespace Go.Proofs.YtdchoaihbjmpbaaDoor
/- THE CELL 'sum', in the pinned program and in every row, IS THE sha256 OF THE DUMP (.gsa) THAT YtdchoaihbjmpbaaDoorProg.lean LOADS. Nothing in Lean hashes anything: it is a label: what it is worth is what the hold of that sum in a sandbox is worth. -/
noncomputable def Tryd.pinned : Pinned := { name := "ytdchoaihbjmpbaadoor", sum := "cee51162115e40a858f33df7488f79687338e0fee6a5f46fbb7e3d5c4536ab96", checked := Tryd.checked }
namespace Rows
def none {H : Type} : Left H := { results := [], args := [] }

/- WHAT THE LISTED PACKAGE-LEVEL VARIABLES READ AS WHEN THE CALL BEGINS. Each datum BY PROGRAM (the guide's laid-datum.mjs) off the statement by which the dump's own 'gosem.cut.vars' lays the variable. In a bare row this is a premise. The card (YtdchoaihbjmpbaaDoorCards.lean) ties it to the program's text. -/
def laid_sandglass_hash_steps {H : Type} : DataW H := .agg [.agg [.lit (.int .u64 32), .lit (.int .u64 11400714819323198485), .lit (.int .u64 17428512612931826493)], .agg [.lit (.int .u64 29), .lit (.int .u64 13787848793156543929), .lit (.int .u64 10871156337175269513)], .agg [.lit (.int .u64 32), .lit (.int .u64 1), .lit (.int .u64 1)]]

/-- 'sandglasslaw03.HashSums': WHATEVER THE INPUT: true; the input reads as it did. -/
def hashSumsSpec : ChangeSpec := { name := "hashSums", fn := fun _ => fun
  | [d1, d2, d3] => { results := [.lit (.bool true)], args := [d1, d2, d3] }
  | _ => none }
def hashSumsRow : OpenClaim := { program := "ytdchoaihbjmpbaadoor", sum := "cee51162115e40a858f33df7488f79687338e0fee6a5f46fbb7e3d5c4536ab96", func := "sandglass/sandglasslaw03.HashSums", spec := "hashSums", named := ["sandglass/hash.steps"], apart := false, laid := [("sandglass/hash.steps", laid_sandglass_hash_steps)] }
def HashSumsSaid : Prop := hashSumsRow.holds Tryd.pinned (OpenSpec.ofChange hashSumsSpec)

/-- ITS FALSE NEIGHBOUR: 'it returns false'. Refute it at one input. -/
def hashSumsWrong : ChangeSpec := { name := "hashSums", fn := fun _ => fun
  | [d1, d2, d3] => { results := [.lit (.bool false)], args := [d1, d2, d3] }
  | _ => none }
def HashSumsWrongFalsely : Prop := hashSumsRow.holds Tryd.pinned (OpenSpec.ofChange hashSumsWrong)

/-- 'sandglasslaw03.HashBack': WHATEVER THE INPUT: true; the input reads as it did. -/
def hashBackSpec : ChangeSpec := { name := "hashBack", fn := fun _ => fun
  | [d1, d2] => { results := [.lit (.bool true)], args := [d1, d2] }
  | _ => none }
def hashBackRow : OpenClaim := { program := "ytdchoaihbjmpbaadoor", sum := "cee51162115e40a858f33df7488f79687338e0fee6a5f46fbb7e3d5c4536ab96", func := "sandglass/sandglasslaw03.HashBack", spec := "hashBack", named := ["sandglass/hash.steps"], apart := false, laid := [("sandglass/hash.steps", laid_sandglass_hash_steps)] }
def HashBackSaid : Prop := hashBackRow.holds Tryd.pinned (OpenSpec.ofChange hashBackSpec)

/-- ITS FALSE NEIGHBOUR: 'it returns false'. Refute it at one input. -/
def hashBackWrong : ChangeSpec := { name := "hashBack", fn := fun _ => fun
  | [d1, d2] => { results := [.lit (.bool false)], args := [d1, d2] }
  | _ => none }
def HashBackWrongFalsely : Prop := hashBackRow.holds Tryd.pinned (OpenSpec.ofChange hashBackWrong)

/-- 'sandglasslaw03.HashSeeds': WHATEVER THE INPUT: true; the input reads as it did. -/
def hashSeedsSpec : ChangeSpec := { name := "hashSeeds", fn := fun _ => fun
  | [d1, d2, d3] => { results := [.lit (.bool true)], args := [d1, d2, d3] }
  | _ => none }
def hashSeedsRow : OpenClaim := { program := "ytdchoaihbjmpbaadoor", sum := "cee51162115e40a858f33df7488f79687338e0fee6a5f46fbb7e3d5c4536ab96", func := "sandglass/sandglasslaw03.HashSeeds", spec := "hashSeeds", named := ["sandglass/hash.steps"], apart := false, laid := [("sandglass/hash.steps", laid_sandglass_hash_steps)] }
def HashSeedsSaid : Prop := hashSeedsRow.holds Tryd.pinned (OpenSpec.ofChange hashSeedsSpec)

/-- ITS FALSE NEIGHBOUR: 'it returns false'. Refute it at one input. -/
def hashSeedsWrong : ChangeSpec := { name := "hashSeeds", fn := fun _ => fun
  | [d1, d2, d3] => { results := [.lit (.bool false)], args := [d1, d2, d3] }
  | _ => none }
def HashSeedsWrongFalsely : Prop := hashSeedsRow.holds Tryd.pinned (OpenSpec.ofChange hashSeedsWrong)

/-- 'sandglasslaw03.HashLast': WHATEVER THE INPUT: true; the input reads as it did. -/
def hashLastSpec : ChangeSpec := { name := "hashLast", fn := fun _ => fun
  | [d1, d2, d3] => { results := [.lit (.bool true)], args := [d1, d2, d3] }
  | _ => none }
def hashLastRow : OpenClaim := { program := "ytdchoaihbjmpbaadoor", sum := "cee51162115e40a858f33df7488f79687338e0fee6a5f46fbb7e3d5c4536ab96", func := "sandglass/sandglasslaw03.HashLast", spec := "hashLast", named := ["sandglass/hash.steps"], apart := false, laid := [("sandglass/hash.steps", laid_sandglass_hash_steps)] }
def HashLastSaid : Prop := hashLastRow.holds Tryd.pinned (OpenSpec.ofChange hashLastSpec)

/-- ITS FALSE NEIGHBOUR: 'it returns false'. Refute it at one input. -/
def hashLastWrong : ChangeSpec := { name := "hashLast", fn := fun _ => fun
  | [d1, d2, d3] => { results := [.lit (.bool false)], args := [d1, d2, d3] }
  | _ => none }
def HashLastWrongFalsely : Prop := hashLastRow.holds Tryd.pinned (OpenSpec.ofChange hashLastWrong)

/-- 'sandglasslaw03.HashHomes': WHATEVER THE INPUT: true; the input reads as it did. -/
def hashHomesSpec : ChangeSpec := { name := "hashHomes", fn := fun _ => fun
  | [d1, d2] => { results := [.lit (.bool true)], args := [d1, d2] }
  | _ => none }
def hashHomesRow : OpenClaim := { program := "ytdchoaihbjmpbaadoor", sum := "cee51162115e40a858f33df7488f79687338e0fee6a5f46fbb7e3d5c4536ab96", func := "sandglass/sandglasslaw03.HashHomes", spec := "hashHomes", named := ["sandglass/hash.steps"], apart := false, laid := [("sandglass/hash.steps", laid_sandglass_hash_steps)] }
def HashHomesSaid : Prop := hashHomesRow.holds Tryd.pinned (OpenSpec.ofChange hashHomesSpec)

/-- ITS FALSE NEIGHBOUR: 'it returns false'. Refute it at one input. -/
def hashHomesWrong : ChangeSpec := { name := "hashHomes", fn := fun _ => fun
  | [d1, d2] => { results := [.lit (.bool false)], args := [d1, d2] }
  | _ => none }
def HashHomesWrongFalsely : Prop := hashHomesRow.holds Tryd.pinned (OpenSpec.ofChange hashHomesWrong)

/-- 'sandglasslaw03.HashNames': WHATEVER THE INPUT: true; the input reads as it did. -/
def hashNamesSpec : ChangeSpec := { name := "hashNames", fn := fun _ => fun
  | [d1, d2, d3] => { results := [.lit (.bool true)], args := [d1, d2, d3] }
  | _ => none }
def hashNamesRow : OpenClaim := { program := "ytdchoaihbjmpbaadoor", sum := "cee51162115e40a858f33df7488f79687338e0fee6a5f46fbb7e3d5c4536ab96", func := "sandglass/sandglasslaw03.HashNames", spec := "hashNames", named := ["sandglass/hash.steps"], apart := false, laid := [("sandglass/hash.steps", laid_sandglass_hash_steps)] }
def HashNamesSaid : Prop := hashNamesRow.holds Tryd.pinned (OpenSpec.ofChange hashNamesSpec)

/-- ITS FALSE NEIGHBOUR: 'it returns false'. Refute it at one input. -/
def hashNamesWrong : ChangeSpec := { name := "hashNames", fn := fun _ => fun
  | [d1, d2, d3] => { results := [.lit (.bool false)], args := [d1, d2, d3] }
  | _ => none }
def HashNamesWrongFalsely : Prop := hashNamesRow.holds Tryd.pinned (OpenSpec.ofChange hashNamesWrong)

/- THE SECOND FORM. 'bulk': how many values and letters a reading holds, each counted each time it is reached (what is shared counts as often as it is met; a slice's spare places count too). A statement '..UptoSaid' is the law's where the arguments, and the package variables that the reading takes, are together of bulk at most 1048576: NARROWER than '..Said'. Prove '..Said' where nothing that the law and all that it calls make is longer than what came in: it says more and counts as full. Else prove '..UptoSaid'. A law counts once. -/
mutual
def uptoBulk {H : Type} : DataW H → Nat
  | .lit (.string bytes) => bytes.length + 1
  | .lit _ => 1
  | .nil => 1
  | .ptr d => uptoBulk d + 1
  | .slice elems spare => uptoBulkAll elems + uptoBulkAll spare + 1
  | .agg parts => uptoBulkAll parts + 1
  | .iface _ d => uptoBulk d + 1
  | .map entries => uptoBulkEntries entries + 1
  | .held _ => 1
def uptoBulkAll {H : Type} : List (DataW H) → Nat
  | [] => 0
  | d :: r => uptoBulk d + uptoBulkAll r
def uptoBulkEntries {H : Type} : List (Lit × DataW H) → Nat
  | [] => 0
  | x :: r => uptoBulkEntry x + uptoBulkEntries r
def uptoBulkEntry {H : Type} : Lit × DataW H → Nat
  | (.string bytes, d) => bytes.length + uptoBulk d + 1
  | (_, d) => uptoBulk d + 1
 end
def uptoSmall : (H : Type) → List (DataW H) → Bool := fun _ ds => decide (uptoBulkAll ds ≤ 1048576)
def OpenSpec.upto (s : _root_.Go.ChangeSpec) : _root_.Go.OpenSpec := { _root_.Go.OpenSpec.ofChange s with cond := some uptoSmall }

/-- 'sandglasslaw03.HashSums', WHERE WHAT IT READS IS OF BULK AT MOST 1048576: true; the input reads as it did. -/
def hashSumsUptoRow : OpenClaim := { program := "ytdchoaihbjmpbaadoor", sum := "cee51162115e40a858f33df7488f79687338e0fee6a5f46fbb7e3d5c4536ab96", func := "sandglass/sandglasslaw03.HashSums", spec := "hashSums", named := ["sandglass/hash.steps"], apart := false, laid := [("sandglass/hash.steps", laid_sandglass_hash_steps)], narrowed := true }
def HashSumsUptoSaid : Prop := hashSumsUptoRow.holds Tryd.pinned (OpenSpec.upto hashSumsSpec)

/-- 'sandglasslaw03.HashBack', WHERE WHAT IT READS IS OF BULK AT MOST 1048576: true; the input reads as it did. -/
def hashBackUptoRow : OpenClaim := { program := "ytdchoaihbjmpbaadoor", sum := "cee51162115e40a858f33df7488f79687338e0fee6a5f46fbb7e3d5c4536ab96", func := "sandglass/sandglasslaw03.HashBack", spec := "hashBack", named := ["sandglass/hash.steps"], apart := false, laid := [("sandglass/hash.steps", laid_sandglass_hash_steps)], narrowed := true }
def HashBackUptoSaid : Prop := hashBackUptoRow.holds Tryd.pinned (OpenSpec.upto hashBackSpec)

/-- 'sandglasslaw03.HashSeeds', WHERE WHAT IT READS IS OF BULK AT MOST 1048576: true; the input reads as it did. -/
def hashSeedsUptoRow : OpenClaim := { program := "ytdchoaihbjmpbaadoor", sum := "cee51162115e40a858f33df7488f79687338e0fee6a5f46fbb7e3d5c4536ab96", func := "sandglass/sandglasslaw03.HashSeeds", spec := "hashSeeds", named := ["sandglass/hash.steps"], apart := false, laid := [("sandglass/hash.steps", laid_sandglass_hash_steps)], narrowed := true }
def HashSeedsUptoSaid : Prop := hashSeedsUptoRow.holds Tryd.pinned (OpenSpec.upto hashSeedsSpec)

/-- 'sandglasslaw03.HashLast', WHERE WHAT IT READS IS OF BULK AT MOST 1048576: true; the input reads as it did. -/
def hashLastUptoRow : OpenClaim := { program := "ytdchoaihbjmpbaadoor", sum := "cee51162115e40a858f33df7488f79687338e0fee6a5f46fbb7e3d5c4536ab96", func := "sandglass/sandglasslaw03.HashLast", spec := "hashLast", named := ["sandglass/hash.steps"], apart := false, laid := [("sandglass/hash.steps", laid_sandglass_hash_steps)], narrowed := true }
def HashLastUptoSaid : Prop := hashLastUptoRow.holds Tryd.pinned (OpenSpec.upto hashLastSpec)

/-- 'sandglasslaw03.HashHomes', WHERE WHAT IT READS IS OF BULK AT MOST 1048576: true; the input reads as it did. -/
def hashHomesUptoRow : OpenClaim := { program := "ytdchoaihbjmpbaadoor", sum := "cee51162115e40a858f33df7488f79687338e0fee6a5f46fbb7e3d5c4536ab96", func := "sandglass/sandglasslaw03.HashHomes", spec := "hashHomes", named := ["sandglass/hash.steps"], apart := false, laid := [("sandglass/hash.steps", laid_sandglass_hash_steps)], narrowed := true }
def HashHomesUptoSaid : Prop := hashHomesUptoRow.holds Tryd.pinned (OpenSpec.upto hashHomesSpec)

/-- 'sandglasslaw03.HashNames', WHERE WHAT IT READS IS OF BULK AT MOST 1048576: true; the input reads as it did. -/
def hashNamesUptoRow : OpenClaim := { program := "ytdchoaihbjmpbaadoor", sum := "cee51162115e40a858f33df7488f79687338e0fee6a5f46fbb7e3d5c4536ab96", func := "sandglass/sandglasslaw03.HashNames", spec := "hashNames", named := ["sandglass/hash.steps"], apart := false, laid := [("sandglass/hash.steps", laid_sandglass_hash_steps)], narrowed := true }
def HashNamesUptoSaid : Prop := hashNamesUptoRow.holds Tryd.pinned (OpenSpec.upto hashNamesSpec)

end Rows
end Go.Proofs.YtdchoaihbjmpbaaDoor
