/-
  DERIVED. GIVEN WITH THE SEED: THE CARDS: each row of YtknehglahdkafaaDoorRows.lean that lists a variable, with what it lists TIED to the program's text (the seventh form; the later family's looks); each row that meets fmt, with fmt's text TOLD by the authors' own Lean function (tested against real Go, not proved from fmt's source: count such statements apart). THE CARD IS WHAT COUNTS. Prove the row's statement (the work); the ties are given (YtknehglahdkafaaDoorTie.lean); close each card by the builder's one call (the guide's Derived/Test/ToyasCard.lean, 'card_holds'). Laid BY PROGRAM, IN A SANDBOX (cutbox-door.mjs). By AI agents, Wed Nov 11 2026. No macro, syntax, notation, axiom, sorry.
-/
import Derived.Test.YtknehglahdkafaaDoorRows
import GoSem.ClaimSeven
namespace Go.Proofs.YtknehglahdkafaaDoor
namespace Rows

/-- THE TIED CARD OF 'sandglasslaw07.WheelScripts'. -/
def wheelScriptsCard : Claim7 := { stood := { row := wheelScriptsRow, standIns := [], harness := (true, "f0b9f6a78debe5d9d00e7d4314fd480358abcea18f2d8ca59f164e9ef39e2770"), looks := false }, kinds := [], alts := [], laidByText := true, laidKinds := [.data], laidTests := true, laidLooks := .later }
def WheelScriptsCardSaid : Prop := Claim7.holds Tryd.pinned (.plain (OpenSpec.ofChange wheelScriptsSpec)) wheelScriptsCard

/-- THE TIED CARD OF 'sandglasslaw07.WheelOnce'. -/
def wheelOnceCard : Claim7 := { stood := { row := wheelOnceRow, standIns := [], harness := (true, "f0b9f6a78debe5d9d00e7d4314fd480358abcea18f2d8ca59f164e9ef39e2770"), looks := false }, kinds := [], alts := [], laidByText := true, laidKinds := [.data], laidTests := true, laidLooks := .later }
def WheelOnceCardSaid : Prop := Claim7.holds Tryd.pinned (.plain (OpenSpec.ofChange wheelOnceSpec)) wheelOnceCard

/-- THE TIED CARD OF 'sandglasslaw07.WheelKeeps'. -/
def wheelKeepsCard : Claim7 := { stood := { row := wheelKeepsRow, standIns := [], harness := (true, "f0b9f6a78debe5d9d00e7d4314fd480358abcea18f2d8ca59f164e9ef39e2770"), looks := false }, kinds := [], alts := [], laidByText := true, laidKinds := [.data], laidTests := true, laidLooks := .later }
def WheelKeepsCardSaid : Prop := Claim7.holds Tryd.pinned (.plain (OpenSpec.ofChange wheelKeepsSpec)) wheelKeepsCard

/-- THE TIED CARD OF 'sandglasslaw07.WheelNil'. -/
def wheelNilCard : Claim7 := { stood := { row := wheelNilRow, standIns := [], harness := (true, "f0b9f6a78debe5d9d00e7d4314fd480358abcea18f2d8ca59f164e9ef39e2770"), looks := false }, kinds := [], alts := [], laidByText := true, laidKinds := [.data], laidTests := true, laidLooks := .later }
def WheelNilCardSaid : Prop := Claim7.holds Tryd.pinned (.plain (OpenSpec.ofChange wheelNilSpec)) wheelNilCard

/-- THE TIED CARD OF 'sandglasslaw07.WheelDrains'. -/
def wheelDrainsCard : Claim7 := { stood := { row := wheelDrainsRow, standIns := [], harness := (true, "f0b9f6a78debe5d9d00e7d4314fd480358abcea18f2d8ca59f164e9ef39e2770"), looks := false }, kinds := [], alts := [], laidByText := true, laidKinds := [.data], laidTests := true, laidLooks := .later }
def WheelDrainsCardSaid : Prop := Claim7.holds Tryd.pinned (.plain (OpenSpec.ofChange wheelDrainsSpec)) wheelDrainsCard

/-- THE SECOND FORM's CARD OF 'sandglasslaw07.WheelScripts'. -/
def wheelScriptsUptoCard : Claim7 := { stood := { row := wheelScriptsUptoRow, standIns := [], harness := (true, "f0b9f6a78debe5d9d00e7d4314fd480358abcea18f2d8ca59f164e9ef39e2770"), looks := false }, kinds := [], alts := [], laidByText := true, laidKinds := [.data], laidTests := true, laidLooks := .later }
def WheelScriptsUptoCardSaid : Prop := Claim7.holds Tryd.pinned (.plain (OpenSpec.upto wheelScriptsSpec)) wheelScriptsUptoCard

/-- THE SECOND FORM's CARD OF 'sandglasslaw07.WheelOnce'. -/
def wheelOnceUptoCard : Claim7 := { stood := { row := wheelOnceUptoRow, standIns := [], harness := (true, "f0b9f6a78debe5d9d00e7d4314fd480358abcea18f2d8ca59f164e9ef39e2770"), looks := false }, kinds := [], alts := [], laidByText := true, laidKinds := [.data], laidTests := true, laidLooks := .later }
def WheelOnceUptoCardSaid : Prop := Claim7.holds Tryd.pinned (.plain (OpenSpec.upto wheelOnceSpec)) wheelOnceUptoCard

/-- THE SECOND FORM's CARD OF 'sandglasslaw07.WheelKeeps'. -/
def wheelKeepsUptoCard : Claim7 := { stood := { row := wheelKeepsUptoRow, standIns := [], harness := (true, "f0b9f6a78debe5d9d00e7d4314fd480358abcea18f2d8ca59f164e9ef39e2770"), looks := false }, kinds := [], alts := [], laidByText := true, laidKinds := [.data], laidTests := true, laidLooks := .later }
def WheelKeepsUptoCardSaid : Prop := Claim7.holds Tryd.pinned (.plain (OpenSpec.upto wheelKeepsSpec)) wheelKeepsUptoCard

/-- THE SECOND FORM's CARD OF 'sandglasslaw07.WheelNil'. -/
def wheelNilUptoCard : Claim7 := { stood := { row := wheelNilUptoRow, standIns := [], harness := (true, "f0b9f6a78debe5d9d00e7d4314fd480358abcea18f2d8ca59f164e9ef39e2770"), looks := false }, kinds := [], alts := [], laidByText := true, laidKinds := [.data], laidTests := true, laidLooks := .later }
def WheelNilUptoCardSaid : Prop := Claim7.holds Tryd.pinned (.plain (OpenSpec.upto wheelNilSpec)) wheelNilUptoCard

/-- THE SECOND FORM's CARD OF 'sandglasslaw07.WheelDrains'. -/
def wheelDrainsUptoCard : Claim7 := { stood := { row := wheelDrainsUptoRow, standIns := [], harness := (true, "f0b9f6a78debe5d9d00e7d4314fd480358abcea18f2d8ca59f164e9ef39e2770"), looks := false }, kinds := [], alts := [], laidByText := true, laidKinds := [.data], laidTests := true, laidLooks := .later }
def WheelDrainsUptoCardSaid : Prop := Claim7.holds Tryd.pinned (.plain (OpenSpec.upto wheelDrainsSpec)) wheelDrainsUptoCard
end Rows
end Go.Proofs.YtknehglahdkafaaDoor
