/-
  DERIVED. GIVEN WITH THE SEED: THE CARDS: each row of YtefpgpehncllnaaDoorRows.lean that lists a variable, with what it lists TIED to the program's text (the seventh form; the later family's looks); each row that meets fmt, with fmt's text TOLD by the authors' own Lean function (tested against real Go, not proved from fmt's source: count such statements apart). THE CARD IS WHAT COUNTS. Prove the row's statement (the work); the ties are given (YtefpgpehncllnaaDoorTie.lean); close each card by the builder's one call (the guide's Derived/Test/ToyasCard.lean, 'card_holds'). Laid BY PROGRAM, IN A SANDBOX (cutbox-door.mjs). By AI agents, Wed Nov 11 2026. No macro, syntax, notation, axiom, sorry.
-/
import Derived.Test.YtefpgpehncllnaaDoorRows
import GoSem.ClaimSeven
namespace Go.Proofs.YtefpgpehncllnaaDoor
namespace Rows

/-- THE TIED CARD OF 'sandglasslaw01.BitsGets'. -/
def bitsGetsCard : Claim7 := { stood := { row := bitsGetsRow, standIns := [], harness := (true, "f8ebec0eabe59933162ff0255dbd42c346cd75565e87d30bdb90f9a28aa0236f"), looks := false }, kinds := [], alts := [], laidByText := true, laidKinds := [.data], laidTests := true, laidLooks := .later }
def BitsGetsCardSaid : Prop := Claim7.holds Tryd.pinned (.plain (OpenSpec.ofChange bitsGetsSpec)) bitsGetsCard

/-- THE TIED CARD OF 'sandglasslaw01.BitsCounts'. -/
def bitsCountsCard : Claim7 := { stood := { row := bitsCountsRow, standIns := [], harness := (true, "f8ebec0eabe59933162ff0255dbd42c346cd75565e87d30bdb90f9a28aa0236f"), looks := false }, kinds := [], alts := [], laidByText := true, laidKinds := [.data], laidTests := true, laidLooks := .later }
def BitsCountsCardSaid : Prop := Claim7.holds Tryd.pinned (.plain (OpenSpec.ofChange bitsCountsSpec)) bitsCountsCard

/-- THE TIED CARD OF 'sandglasslaw01.BitsPacks'. -/
def bitsPacksCard : Claim7 := { stood := { row := bitsPacksRow, standIns := [], harness := (true, "f8ebec0eabe59933162ff0255dbd42c346cd75565e87d30bdb90f9a28aa0236f"), looks := false }, kinds := [], alts := [], laidByText := true, laidKinds := [.data], laidTests := true, laidLooks := .later }
def BitsPacksCardSaid : Prop := Claim7.holds Tryd.pinned (.plain (OpenSpec.ofChange bitsPacksSpec)) bitsPacksCard

/-- THE TIED CARD OF 'sandglasslaw01.BitsBack'. -/
def bitsBackCard : Claim7 := { stood := { row := bitsBackRow, standIns := [], harness := (true, "f8ebec0eabe59933162ff0255dbd42c346cd75565e87d30bdb90f9a28aa0236f"), looks := false }, kinds := [], alts := [], laidByText := true, laidKinds := [.data], laidTests := true, laidLooks := .later }
def BitsBackCardSaid : Prop := Claim7.holds Tryd.pinned (.plain (OpenSpec.ofChange bitsBackSpec)) bitsBackCard

/-- THE TIED CARD OF 'sandglasslaw01.BitsAgain'. -/
def bitsAgainCard : Claim7 := { stood := { row := bitsAgainRow, standIns := [], harness := (true, "f8ebec0eabe59933162ff0255dbd42c346cd75565e87d30bdb90f9a28aa0236f"), looks := false }, kinds := [], alts := [], laidByText := true, laidKinds := [.data], laidTests := true, laidLooks := .later }
def BitsAgainCardSaid : Prop := Claim7.holds Tryd.pinned (.plain (OpenSpec.ofChange bitsAgainSpec)) bitsAgainCard

/-- THE TIED CARD OF 'sandglasslaw01.BitsOnes'. -/
def bitsOnesCard : Claim7 := { stood := { row := bitsOnesRow, standIns := [], harness := (true, "f8ebec0eabe59933162ff0255dbd42c346cd75565e87d30bdb90f9a28aa0236f"), looks := false }, kinds := [], alts := [], laidByText := true, laidKinds := [.data], laidTests := true, laidLooks := .later }
def BitsOnesCardSaid : Prop := Claim7.holds Tryd.pinned (.plain (OpenSpec.ofChange bitsOnesSpec)) bitsOnesCard

/-- THE TIED CARD OF 'sandglasslaw01.BitsApart'. -/
def bitsApartCard : Claim7 := { stood := { row := bitsApartRow, standIns := [], harness := (true, "f8ebec0eabe59933162ff0255dbd42c346cd75565e87d30bdb90f9a28aa0236f"), looks := false }, kinds := [], alts := [], laidByText := true, laidKinds := [.data], laidTests := true, laidLooks := .later }
def BitsApartCardSaid : Prop := Claim7.holds Tryd.pinned (.plain (OpenSpec.ofChange bitsApartSpec)) bitsApartCard

/-- THE SECOND FORM's CARD OF 'sandglasslaw01.BitsGets'. -/
def bitsGetsUptoCard : Claim7 := { stood := { row := bitsGetsUptoRow, standIns := [], harness := (true, "f8ebec0eabe59933162ff0255dbd42c346cd75565e87d30bdb90f9a28aa0236f"), looks := false }, kinds := [], alts := [], laidByText := true, laidKinds := [.data], laidTests := true, laidLooks := .later }
def BitsGetsUptoCardSaid : Prop := Claim7.holds Tryd.pinned (.plain (OpenSpec.upto bitsGetsSpec)) bitsGetsUptoCard

/-- THE SECOND FORM's CARD OF 'sandglasslaw01.BitsCounts'. -/
def bitsCountsUptoCard : Claim7 := { stood := { row := bitsCountsUptoRow, standIns := [], harness := (true, "f8ebec0eabe59933162ff0255dbd42c346cd75565e87d30bdb90f9a28aa0236f"), looks := false }, kinds := [], alts := [], laidByText := true, laidKinds := [.data], laidTests := true, laidLooks := .later }
def BitsCountsUptoCardSaid : Prop := Claim7.holds Tryd.pinned (.plain (OpenSpec.upto bitsCountsSpec)) bitsCountsUptoCard

/-- THE SECOND FORM's CARD OF 'sandglasslaw01.BitsPacks'. -/
def bitsPacksUptoCard : Claim7 := { stood := { row := bitsPacksUptoRow, standIns := [], harness := (true, "f8ebec0eabe59933162ff0255dbd42c346cd75565e87d30bdb90f9a28aa0236f"), looks := false }, kinds := [], alts := [], laidByText := true, laidKinds := [.data], laidTests := true, laidLooks := .later }
def BitsPacksUptoCardSaid : Prop := Claim7.holds Tryd.pinned (.plain (OpenSpec.upto bitsPacksSpec)) bitsPacksUptoCard

/-- THE SECOND FORM's CARD OF 'sandglasslaw01.BitsBack'. -/
def bitsBackUptoCard : Claim7 := { stood := { row := bitsBackUptoRow, standIns := [], harness := (true, "f8ebec0eabe59933162ff0255dbd42c346cd75565e87d30bdb90f9a28aa0236f"), looks := false }, kinds := [], alts := [], laidByText := true, laidKinds := [.data], laidTests := true, laidLooks := .later }
def BitsBackUptoCardSaid : Prop := Claim7.holds Tryd.pinned (.plain (OpenSpec.upto bitsBackSpec)) bitsBackUptoCard

/-- THE SECOND FORM's CARD OF 'sandglasslaw01.BitsAgain'. -/
def bitsAgainUptoCard : Claim7 := { stood := { row := bitsAgainUptoRow, standIns := [], harness := (true, "f8ebec0eabe59933162ff0255dbd42c346cd75565e87d30bdb90f9a28aa0236f"), looks := false }, kinds := [], alts := [], laidByText := true, laidKinds := [.data], laidTests := true, laidLooks := .later }
def BitsAgainUptoCardSaid : Prop := Claim7.holds Tryd.pinned (.plain (OpenSpec.upto bitsAgainSpec)) bitsAgainUptoCard

/-- THE SECOND FORM's CARD OF 'sandglasslaw01.BitsOnes'. -/
def bitsOnesUptoCard : Claim7 := { stood := { row := bitsOnesUptoRow, standIns := [], harness := (true, "f8ebec0eabe59933162ff0255dbd42c346cd75565e87d30bdb90f9a28aa0236f"), looks := false }, kinds := [], alts := [], laidByText := true, laidKinds := [.data], laidTests := true, laidLooks := .later }
def BitsOnesUptoCardSaid : Prop := Claim7.holds Tryd.pinned (.plain (OpenSpec.upto bitsOnesSpec)) bitsOnesUptoCard

/-- THE SECOND FORM's CARD OF 'sandglasslaw01.BitsApart'. -/
def bitsApartUptoCard : Claim7 := { stood := { row := bitsApartUptoRow, standIns := [], harness := (true, "f8ebec0eabe59933162ff0255dbd42c346cd75565e87d30bdb90f9a28aa0236f"), looks := false }, kinds := [], alts := [], laidByText := true, laidKinds := [.data], laidTests := true, laidLooks := .later }
def BitsApartUptoCardSaid : Prop := Claim7.holds Tryd.pinned (.plain (OpenSpec.upto bitsApartSpec)) bitsApartUptoCard
end Rows
end Go.Proofs.YtefpgpehncllnaaDoor
