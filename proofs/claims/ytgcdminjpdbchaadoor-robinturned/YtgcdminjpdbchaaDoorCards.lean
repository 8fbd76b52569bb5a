/-
  DERIVED. GIVEN WITH THE SEED: THE CARDS: each row of YtgcdminjpdbchaaDoorRows.lean that lists a variable, with what it lists TIED to the program's text (the seventh form; the later family's looks); each row that meets fmt, with fmt's text TOLD by the authors' own Lean function (tested against real Go, not proved from fmt's source: count such statements apart). THE CARD IS WHAT COUNTS. Prove the row's statement (the work); the ties are given (YtgcdminjpdbchaaDoorTie.lean); close each card by the builder's one call (the guide's Derived/Test/ToyasCard.lean, 'card_holds'). Laid BY PROGRAM, IN A SANDBOX (cutbox-door.mjs). By AI agents, Wed Nov 11 2026. No macro, syntax, notation, axiom, sorry.
-/
import Derived.Test.YtgcdminjpdbchaaDoorRows
import GoSem.ClaimSeven
namespace Go.Proofs.YtgcdminjpdbchaaDoor
namespace Rows

/-- THE TIED CARD OF 'sandglasslaw05.RobinMaps'. -/
def robinMapsCard : Claim7 := { stood := { row := robinMapsRow, standIns := [], harness := (true, "94dd2a656ec31eb1c2c4a726d0c0bf1bda5b77c4f51faeb048ec0ab2d9802843"), looks := false }, kinds := [], alts := [], laidByText := true, laidKinds := [.data], laidTests := true, laidLooks := .later }
def RobinMapsCardSaid : Prop := Claim7.holds Tryd.pinned (.plain (OpenSpec.ofChange robinMapsSpec)) robinMapsCard

/-- THE TIED CARD OF 'sandglasslaw05.RobinWell'. -/
def robinWellCard : Claim7 := { stood := { row := robinWellRow, standIns := [], harness := (true, "94dd2a656ec31eb1c2c4a726d0c0bf1bda5b77c4f51faeb048ec0ab2d9802843"), looks := false }, kinds := [], alts := [], laidByText := true, laidKinds := [.data], laidTests := true, laidLooks := .later }
def RobinWellCardSaid : Prop := Claim7.holds Tryd.pinned (.plain (OpenSpec.ofChange robinWellSpec)) robinWellCard

/-- THE TIED CARD OF 'sandglasslaw05.RobinFinds'. -/
def robinFindsCard : Claim7 := { stood := { row := robinFindsRow, standIns := [], harness := (true, "94dd2a656ec31eb1c2c4a726d0c0bf1bda5b77c4f51faeb048ec0ab2d9802843"), looks := false }, kinds := [], alts := [], laidByText := true, laidKinds := [.data], laidTests := true, laidLooks := .later }
def RobinFindsCardSaid : Prop := Claim7.holds Tryd.pinned (.plain (OpenSpec.ofChange robinFindsSpec)) robinFindsCard

/-- THE TIED CARD OF 'sandglasslaw05.RobinPuts'. -/
def robinPutsCard : Claim7 := { stood := { row := robinPutsRow, standIns := [], harness := (true, "94dd2a656ec31eb1c2c4a726d0c0bf1bda5b77c4f51faeb048ec0ab2d9802843"), looks := false }, kinds := [], alts := [], laidByText := true, laidKinds := [.data], laidTests := true, laidLooks := .later }
def RobinPutsCardSaid : Prop := Claim7.holds Tryd.pinned (.plain (OpenSpec.ofChange robinPutsSpec)) robinPutsCard

/-- THE TIED CARD OF 'sandglasslaw05.RobinFull'. -/
def robinFullCard : Claim7 := { stood := { row := robinFullRow, standIns := [], harness := (true, "94dd2a656ec31eb1c2c4a726d0c0bf1bda5b77c4f51faeb048ec0ab2d9802843"), looks := false }, kinds := [], alts := [], laidByText := true, laidKinds := [.data], laidTests := true, laidLooks := .later }
def RobinFullCardSaid : Prop := Claim7.holds Tryd.pinned (.plain (OpenSpec.ofChange robinFullSpec)) robinFullCard

/-- THE TIED CARD OF 'sandglasslaw05.RobinNil'. -/
def robinNilCard : Claim7 := { stood := { row := robinNilRow, standIns := [], harness := (true, "94dd2a656ec31eb1c2c4a726d0c0bf1bda5b77c4f51faeb048ec0ab2d9802843"), looks := false }, kinds := [], alts := [], laidByText := true, laidKinds := [.data], laidTests := true, laidLooks := .later }
def RobinNilCardSaid : Prop := Claim7.holds Tryd.pinned (.plain (OpenSpec.ofChange robinNilSpec)) robinNilCard

/-- THE TIED CARD OF 'sandglasslaw05.RobinTurned'. -/
def robinTurnedCard : Claim7 := { stood := { row := robinTurnedRow, standIns := [], harness := (true, "94dd2a656ec31eb1c2c4a726d0c0bf1bda5b77c4f51faeb048ec0ab2d9802843"), looks := false }, kinds := [], alts := [], laidByText := true, laidKinds := [.data], laidTests := true, laidLooks := .later }
def RobinTurnedCardSaid : Prop := Claim7.holds Tryd.pinned (.plain (OpenSpec.ofChange robinTurnedSpec)) robinTurnedCard

/-- THE SECOND FORM's CARD OF 'sandglasslaw05.RobinMaps'. -/
def robinMapsUptoCard : Claim7 := { stood := { row := robinMapsUptoRow, standIns := [], harness := (true, "94dd2a656ec31eb1c2c4a726d0c0bf1bda5b77c4f51faeb048ec0ab2d9802843"), looks := false }, kinds := [], alts := [], laidByText := true, laidKinds := [.data], laidTests := true, laidLooks := .later }
def RobinMapsUptoCardSaid : Prop := Claim7.holds Tryd.pinned (.plain (OpenSpec.upto robinMapsSpec)) robinMapsUptoCard

/-- THE SECOND FORM's CARD OF 'sandglasslaw05.RobinWell'. -/
def robinWellUptoCard : Claim7 := { stood := { row := robinWellUptoRow, standIns := [], harness := (true, "94dd2a656ec31eb1c2c4a726d0c0bf1bda5b77c4f51faeb048ec0ab2d9802843"), looks := false }, kinds := [], alts := [], laidByText := true, laidKinds := [.data], laidTests := true, laidLooks := .later }
def RobinWellUptoCardSaid : Prop := Claim7.holds Tryd.pinned (.plain (OpenSpec.upto robinWellSpec)) robinWellUptoCard

/-- THE SECOND FORM's CARD OF 'sandglasslaw05.RobinFinds'. -/
def robinFindsUptoCard : Claim7 := { stood := { row := robinFindsUptoRow, standIns := [], harness := (true, "94dd2a656ec31eb1c2c4a726d0c0bf1bda5b77c4f51faeb048ec0ab2d9802843"), looks := false }, kinds := [], alts := [], laidByText := true, laidKinds := [.data], laidTests := true, laidLooks := .later }
def RobinFindsUptoCardSaid : Prop := Claim7.holds Tryd.pinned (.plain (OpenSpec.upto robinFindsSpec)) robinFindsUptoCard

/-- THE SECOND FORM's CARD OF 'sandglasslaw05.RobinPuts'. -/
def robinPutsUptoCard : Claim7 := { stood := { row := robinPutsUptoRow, standIns := [], harness := (true, "94dd2a656ec31eb1c2c4a726d0c0bf1bda5b77c4f51faeb048ec0ab2d9802843"), looks := false }, kinds := [], alts := [], laidByText := true, laidKinds := [.data], laidTests := true, laidLooks := .later }
def RobinPutsUptoCardSaid : Prop := Claim7.holds Tryd.pinned (.plain (OpenSpec.upto robinPutsSpec)) robinPutsUptoCard

/-- THE SECOND FORM's CARD OF 'sandglasslaw05.RobinFull'. -/
def robinFullUptoCard : Claim7 := { stood := { row := robinFullUptoRow, standIns := [], harness := (true, "94dd2a656ec31eb1c2c4a726d0c0bf1bda5b77c4f51faeb048ec0ab2d9802843"), looks := false }, kinds := [], alts := [], laidByText := true, laidKinds := [.data], laidTests := true, laidLooks := .later }
def RobinFullUptoCardSaid : Prop := Claim7.holds Tryd.pinned (.plain (OpenSpec.upto robinFullSpec)) robinFullUptoCard

/-- THE SECOND FORM's CARD OF 'sandglasslaw05.RobinNil'. -/
def robinNilUptoCard : Claim7 := { stood := { row := robinNilUptoRow, standIns := [], harness := (true, "94dd2a656ec31eb1c2c4a726d0c0bf1bda5b77c4f51faeb048ec0ab2d9802843"), looks := false }, kinds := [], alts := [], laidByText := true, laidKinds := [.data], laidTests := true, laidLooks := .later }
def RobinNilUptoCardSaid : Prop := Claim7.holds Tryd.pinned (.plain (OpenSpec.upto robinNilSpec)) robinNilUptoCard

/-- THE SECOND FORM's CARD OF 'sandglasslaw05.RobinTurned'. -/
def robinTurnedUptoCard : Claim7 := { stood := { row := robinTurnedUptoRow, standIns := [], harness := (true, "94dd2a656ec31eb1c2c4a726d0c0bf1bda5b77c4f51faeb048ec0ab2d9802843"), looks := false }, kinds := [], alts := [], laidByText := true, laidKinds := [.data], laidTests := true, laidLooks := .later }
def RobinTurnedUptoCardSaid : Prop := Claim7.holds Tryd.pinned (.plain (OpenSpec.upto robinTurnedSpec)) robinTurnedUptoCard
end Rows
end Go.Proofs.YtgcdminjpdbchaaDoor
