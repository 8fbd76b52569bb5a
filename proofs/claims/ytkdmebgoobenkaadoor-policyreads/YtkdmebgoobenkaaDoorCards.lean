/-
  DERIVED. GIVEN WITH THE SEED: THE CARDS: each row of YtkdmebgoobenkaaDoorRows.lean that lists a variable, with what it lists TIED to the program's text (the seventh form; the later family's looks); each row that meets fmt, with fmt's text TOLD by the authors' own Lean function (tested against real Go, not proved from fmt's source: count such statements apart). THE CARD IS WHAT COUNTS. Prove the row's statement (the work); the ties are given (YtkdmebgoobenkaaDoorTie.lean); close each card by the builder's one call (the guide's Derived/Test/ToyasCard.lean, 'card_holds'). Laid BY PROGRAM, IN A SANDBOX (cutbox-door.mjs). By AI agents, Wed Nov 11 2026. No macro, syntax, notation, axiom, sorry.
-/
import Derived.Test.YtkdmebgoobenkaaDoorRows
import GoSem.ClaimSeven
namespace Go.Proofs.YtkdmebgoobenkaaDoor
namespace Rows

/-- THE TIED CARD OF 'sandglasslaw09.PolicyTells'. -/
def policyTellsCard : Claim7 := { stood := { row := policyTellsRow, standIns := [], harness := (true, "4b287687a40dfd34f756e7f5eed2e00b6657a8c0ed2fcba55e0c36b58e17c6df"), looks := false }, kinds := [], alts := [], laidByText := true, laidKinds := [.data], laidTests := true, laidLooks := .later }
def PolicyTellsCardSaid : Prop := Claim7.holds Tryd.pinned (.plain (OpenSpec.ofChange policyTellsSpec)) policyTellsCard

/-- THE TIED CARD OF 'sandglasslaw09.PolicyReads'. -/
def policyReadsCard : Claim7 := { stood := { row := policyReadsRow, standIns := [], harness := (true, "4b287687a40dfd34f756e7f5eed2e00b6657a8c0ed2fcba55e0c36b58e17c6df"), looks := false }, kinds := [], alts := [], laidByText := true, laidKinds := [.data], laidTests := true, laidLooks := .later }
def PolicyReadsCardSaid : Prop := Claim7.holds Tryd.pinned (.plain (OpenSpec.ofChange policyReadsSpec)) policyReadsCard

/-- THE TIED CARD OF 'sandglasslaw09.PolicyBack'. -/
def policyBackCard : Claim7 := { stood := { row := policyBackRow, standIns := [], harness := (true, "4b287687a40dfd34f756e7f5eed2e00b6657a8c0ed2fcba55e0c36b58e17c6df"), looks := false }, kinds := [], alts := [], laidByText := true, laidKinds := [.data], laidTests := true, laidLooks := .later }
def PolicyBackCardSaid : Prop := Claim7.holds Tryd.pinned (.plain (OpenSpec.ofChange policyBackSpec)) policyBackCard

/-- THE TIED CARD OF 'sandglasslaw09.PolicySlots'. -/
def policySlotsCard : Claim7 := { stood := { row := policySlotsRow, standIns := [], harness := (true, "4b287687a40dfd34f756e7f5eed2e00b6657a8c0ed2fcba55e0c36b58e17c6df"), looks := false }, kinds := [], alts := [], laidByText := true, laidKinds := [.data], laidTests := true, laidLooks := .later }
def PolicySlotsCardSaid : Prop := Claim7.holds Tryd.pinned (.plain (OpenSpec.ofChange policySlotsSpec)) policySlotsCard

/-- THE TIED CARD OF 'sandglasslaw09.PolicyApart'. -/
def policyApartCard : Claim7 := { stood := { row := policyApartRow, standIns := [], harness := (true, "4b287687a40dfd34f756e7f5eed2e00b6657a8c0ed2fcba55e0c36b58e17c6df"), looks := false }, kinds := [], alts := [], laidByText := true, laidKinds := [.data], laidTests := true, laidLooks := .later }
def PolicyApartCardSaid : Prop := Claim7.holds Tryd.pinned (.plain (OpenSpec.ofChange policyApartSpec)) policyApartCard

/-- THE SECOND FORM's CARD OF 'sandglasslaw09.PolicyTells'. -/
def policyTellsUptoCard : Claim7 := { stood := { row := policyTellsUptoRow, standIns := [], harness := (true, "4b287687a40dfd34f756e7f5eed2e00b6657a8c0ed2fcba55e0c36b58e17c6df"), looks := false }, kinds := [], alts := [], laidByText := true, laidKinds := [.data], laidTests := true, laidLooks := .later }
def PolicyTellsUptoCardSaid : Prop := Claim7.holds Tryd.pinned (.plain (OpenSpec.upto policyTellsSpec)) policyTellsUptoCard

/-- THE SECOND FORM's CARD OF 'sandglasslaw09.PolicyReads'. -/
def policyReadsUptoCard : Claim7 := { stood := { row := policyReadsUptoRow, standIns := [], harness := (true, "4b287687a40dfd34f756e7f5eed2e00b6657a8c0ed2fcba55e0c36b58e17c6df"), looks := false }, kinds := [], alts := [], laidByText := true, laidKinds := [.data], laidTests := true, laidLooks := .later }
def PolicyReadsUptoCardSaid : Prop := Claim7.holds Tryd.pinned (.plain (OpenSpec.upto policyReadsSpec)) policyReadsUptoCard

/-- THE SECOND FORM's CARD OF 'sandglasslaw09.PolicyBack'. -/
def policyBackUptoCard : Claim7 := { stood := { row := policyBackUptoRow, standIns := [], harness := (true, "4b287687a40dfd34f756e7f5eed2e00b6657a8c0ed2fcba55e0c36b58e17c6df"), looks := false }, kinds := [], alts := [], laidByText := true, laidKinds := [.data], laidTests := true, laidLooks := .later }
def PolicyBackUptoCardSaid : Prop := Claim7.holds Tryd.pinned (.plain (OpenSpec.upto policyBackSpec)) policyBackUptoCard

/-- THE SECOND FORM's CARD OF 'sandglasslaw09.PolicySlots'. -/
def policySlotsUptoCard : Claim7 := { stood := { row := policySlotsUptoRow, standIns := [], harness := (true, "4b287687a40dfd34f756e7f5eed2e00b6657a8c0ed2fcba55e0c36b58e17c6df"), looks := false }, kinds := [], alts := [], laidByText := true, laidKinds := [.data], laidTests := true, laidLooks := .later }
def PolicySlotsUptoCardSaid : Prop := Claim7.holds Tryd.pinned (.plain (OpenSpec.upto policySlotsSpec)) policySlotsUptoCard

/-- THE SECOND FORM's CARD OF 'sandglasslaw09.PolicyApart'. -/
def policyApartUptoCard : Claim7 := { stood := { row := policyApartUptoRow, standIns := [], harness := (true, "4b287687a40dfd34f756e7f5eed2e00b6657a8c0ed2fcba55e0c36b58e17c6df"), looks := false }, kinds := [], alts := [], laidByText := true, laidKinds := [.data], laidTests := true, laidLooks := .later }
def PolicyApartUptoCardSaid : Prop := Claim7.holds Tryd.pinned (.plain (OpenSpec.upto policyApartSpec)) policyApartUptoCard
end Rows
end Go.Proofs.YtkdmebgoobenkaaDoor
