/-
  DERIVED. GIVEN WITH THE SEED: THE CARDS: each row of YtdchoaihbjmpbaaDoorRows.lean that lists a variable, with what it lists TIED to the program's text (the seventh form; the later family's looks); each row that meets fmt, with fmt's text TOLD by the authors' own Lean function (tested against real Go, not proved from fmt's source: count such statements apart). THE CARD IS WHAT COUNTS. Prove the row's statement (the work); the ties are given (YtdchoaihbjmpbaaDoorTie.lean); close each card by the builder's one call (the guide's Derived/Test/ToyasCard.lean, 'card_holds'). Laid BY PROGRAM, IN A SANDBOX (cutbox-door.mjs). By AI agents, Wed Nov 11 2026. No macro, syntax, notation, axiom, sorry.
-/
import Derived.Test.YtdchoaihbjmpbaaDoorRows
import GoSem.ClaimSeven
namespace Go.Proofs.YtdchoaihbjmpbaaDoor
namespace Rows

/-- THE TIED CARD OF 'sandglasslaw03.HashSums'. -/
def hashSumsCard : Claim7 := { stood := { row := hashSumsRow, standIns := [], harness := (true, "32123bc9f39133526b4cb6aa3f4ddc8e73be2fea16d89300cc2daa1a8bfe0160"), looks := false }, kinds := [], alts := [], laidByText := true, laidKinds := [.data], laidTests := true, laidLooks := .later }
def HashSumsCardSaid : Prop := Claim7.holds Tryd.pinned (.plain (OpenSpec.ofChange hashSumsSpec)) hashSumsCard

/-- THE TIED CARD OF 'sandglasslaw03.HashBack'. -/
def hashBackCard : Claim7 := { stood := { row := hashBackRow, standIns := [], harness := (true, "32123bc9f39133526b4cb6aa3f4ddc8e73be2fea16d89300cc2daa1a8bfe0160"), looks := false }, kinds := [], alts := [], laidByText := true, laidKinds := [.data], laidTests := true, laidLooks := .later }
def HashBackCardSaid : Prop := Claim7.holds Tryd.pinned (.plain (OpenSpec.ofChange hashBackSpec)) hashBackCard

/-- THE TIED CARD OF 'sandglasslaw03.HashSeeds'. -/
def hashSeedsCard : Claim7 := { stood := { row := hashSeedsRow, standIns := [], harness := (true, "32123bc9f39133526b4cb6aa3f4ddc8e73be2fea16d89300cc2daa1a8bfe0160"), looks := false }, kinds := [], alts := [], laidByText := true, laidKinds := [.data], laidTests := true, laidLooks := .later }
def HashSeedsCardSaid : Prop := Claim7.holds Tryd.pinned (.plain (OpenSpec.ofChange hashSeedsSpec)) hashSeedsCard

/-- THE TIED CARD OF 'sandglasslaw03.HashLast'. -/
def hashLastCard : Claim7 := { stood := { row := hashLastRow, standIns := [], harness := (true, "32123bc9f39133526b4cb6aa3f4ddc8e73be2fea16d89300cc2daa1a8bfe0160"), looks := false }, kinds := [], alts := [], laidByText := true, laidKinds := [.data], laidTests := true, laidLooks := .later }
def HashLastCardSaid : Prop := Claim7.holds Tryd.pinned (.plain (OpenSpec.ofChange hashLastSpec)) hashLastCard

/-- THE TIED CARD OF 'sandglasslaw03.HashHomes'. -/
def hashHomesCard : Claim7 := { stood := { row := hashHomesRow, standIns := [], harness := (true, "32123bc9f39133526b4cb6aa3f4ddc8e73be2fea16d89300cc2daa1a8bfe0160"), looks := false }, kinds := [], alts := [], laidByText := true, laidKinds := [.data], laidTests := true, laidLooks := .later }
def HashHomesCardSaid : Prop := Claim7.holds Tryd.pinned (.plain (OpenSpec.ofChange hashHomesSpec)) hashHomesCard

/-- THE TIED CARD OF 'sandglasslaw03.HashNames'. -/
def hashNamesCard : Claim7 := { stood := { row := hashNamesRow, standIns := [], harness := (true, "32123bc9f39133526b4cb6aa3f4ddc8e73be2fea16d89300cc2daa1a8bfe0160"), looks := false }, kinds := [], alts := [], laidByText := true, laidKinds := [.data], laidTests := true, laidLooks := .later }
def HashNamesCardSaid : Prop := Claim7.holds Tryd.pinned (.plain (OpenSpec.ofChange hashNamesSpec)) hashNamesCard

/-- THE SECOND FORM's CARD OF 'sandglasslaw03.HashSums'. -/
def hashSumsUptoCard : Claim7 := { stood := { row := hashSumsUptoRow, standIns := [], harness := (true, "32123bc9f39133526b4cb6aa3f4ddc8e73be2fea16d89300cc2daa1a8bfe0160"), looks := false }, kinds := [], alts := [], laidByText := true, laidKinds := [.data], laidTests := true, laidLooks := .later }
def HashSumsUptoCardSaid : Prop := Claim7.holds Tryd.pinned (.plain (OpenSpec.upto hashSumsSpec)) hashSumsUptoCard

/-- THE SECOND FORM's CARD OF 'sandglasslaw03.HashBack'. -/
def hashBackUptoCard : Claim7 := { stood := { row := hashBackUptoRow, standIns := [], harness := (true, "32123bc9f39133526b4cb6aa3f4ddc8e73be2fea16d89300cc2daa1a8bfe0160"), looks := false }, kinds := [], alts := [], laidByText := true, laidKinds := [.data], laidTests := true, laidLooks := .later }
def HashBackUptoCardSaid : Prop := Claim7.holds Tryd.pinned (.plain (OpenSpec.upto hashBackSpec)) hashBackUptoCard

/-- THE SECOND FORM's CARD OF 'sandglasslaw03.HashSeeds'. -/
def hashSeedsUptoCard : Claim7 := { stood := { row := hashSeedsUptoRow, standIns := [], harness := (true, "32123bc9f39133526b4cb6aa3f4ddc8e73be2fea16d89300cc2daa1a8bfe0160"), looks := false }, kinds := [], alts := [], laidByText := true, laidKinds := [.data], laidTests := true, laidLooks := .later }
def HashSeedsUptoCardSaid : Prop := Claim7.holds Tryd.pinned (.plain (OpenSpec.upto hashSeedsSpec)) hashSeedsUptoCard

/-- THE SECOND FORM's CARD OF 'sandglasslaw03.HashLast'. -/
def hashLastUptoCard : Claim7 := { stood := { row := hashLastUptoRow, standIns := [], harness := (true, "32123bc9f39133526b4cb6aa3f4ddc8e73be2fea16d89300cc2daa1a8bfe0160"), looks := false }, kinds := [], alts := [], laidByText := true, laidKinds := [.data], laidTests := true, laidLooks := .later }
def HashLastUptoCardSaid : Prop := Claim7.holds Tryd.pinned (.plain (OpenSpec.upto hashLastSpec)) hashLastUptoCard

/-- THE SECOND FORM's CARD OF 'sandglasslaw03.HashHomes'. -/
def hashHomesUptoCard : Claim7 := { stood := { row := hashHomesUptoRow, standIns := [], harness := (true, "32123bc9f39133526b4cb6aa3f4ddc8e73be2fea16d89300cc2daa1a8bfe0160"), looks := false }, kinds := [], alts := [], laidByText := true, laidKinds := [.data], laidTests := true, laidLooks := .later }
def HashHomesUptoCardSaid : Prop := Claim7.holds Tryd.pinned (.plain (OpenSpec.upto hashHomesSpec)) hashHomesUptoCard

/-- THE SECOND FORM's CARD OF 'sandglasslaw03.HashNames'. -/
def hashNamesUptoCard : Claim7 := { stood := { row := hashNamesUptoRow, standIns := [], harness := (true, "32123bc9f39133526b4cb6aa3f4ddc8e73be2fea16d89300cc2daa1a8bfe0160"), looks := false }, kinds := [], alts := [], laidByText := true, laidKinds := [.data], laidTests := true, laidLooks := .later }
def HashNamesUptoCardSaid : Prop := Claim7.holds Tryd.pinned (.plain (OpenSpec.upto hashNamesSpec)) hashNamesUptoCard
end Rows
end Go.Proofs.YtdchoaihbjmpbaaDoor
