/-
  DERIVED. GIVEN WITH THE SEED: THE CARDS: each row of YtdebjhdafnpfkaaGreatDoorRows.lean that lists a variable, with what it lists TIED to the program's text (the seventh form; the later family's looks); each row that meets fmt, with fmt's text TOLD by the authors' own Lean function (tested against real Go, not proved from fmt's source: count such statements apart). THE CARD IS WHAT COUNTS. Prove the row's statement (the work); the ties are given (YtdebjhdafnpfkaaGreatDoorTie.lean); close each card by the builder's one call (the guide's Derived/Test/ToyasCard.lean, 'card_holds'). Laid BY PROGRAM, IN A SANDBOX (cutbox-door.mjs). By AI agents, Wed Nov 11 2026. No macro, syntax, notation, axiom, sorry.
-/
import Derived.Test.YtdebjhdafnpfkaaGreatDoorRows
import GoSem.ClaimSeven
namespace Go.Proofs.YtdebjhdafnpfkaaGreatDoor
namespace Rows

/-- THE TIED CARD OF 'hemlaw.Parses'. -/
def parsesCard : Claim7 := { stood := { row := parsesRow, standIns := [], harness := (true, "6be3ddb04e93f81475ddec5d186431647b4d5db122d404762c467cab1b275509"), looks := true }, kinds := [], alts := [], laidByText := true, laidKinds := [.data, .handle, .pinned], laidTests := true, laidLooks := .later }
def ParsesCardSaid : Prop := Claim7.holds Tryz.pinned (.plain (OpenSpec.ofChange parsesSpec)) parsesCard

/-- THE TIED CARD OF 'hemlaw.Asks'. -/
def asksCard : Claim7 := { stood := { row := asksRow, standIns := [], harness := (true, "6be3ddb04e93f81475ddec5d186431647b4d5db122d404762c467cab1b275509"), looks := true }, kinds := [], alts := [], laidByText := true, laidKinds := [.data, .handle, .pinned], laidTests := true, laidLooks := .later }
def AsksCardSaid : Prop := Claim7.holds Tryz.pinned (.plain (OpenSpec.ofChange asksSpec)) asksCard

/-- THE TIED CARD OF 'hemlaw.Shows'. -/
def showsCard : Claim7 := { stood := { row := showsRow, standIns := [], harness := (true, "6be3ddb04e93f81475ddec5d186431647b4d5db122d404762c467cab1b275509"), looks := true }, kinds := [], alts := [], laidByText := true, laidKinds := [.data, .handle, .pinned], laidTests := true, laidLooks := .later }
def ShowsCardSaid : Prop := Claim7.holds Tryz.pinned (.plain (OpenSpec.ofChange showsSpec)) showsCard

/-- THE TIED CARD OF 'hemlaw.Lays'. -/
def laysCard : Claim7 := { stood := { row := laysRow, standIns := [], harness := (true, "6be3ddb04e93f81475ddec5d186431647b4d5db122d404762c467cab1b275509"), looks := true }, kinds := [], alts := [], laidByText := true, laidKinds := [.data, .handle, .pinned], laidTests := true, laidLooks := .later }
def LaysCardSaid : Prop := Claim7.holds Tryz.pinned (.plain (OpenSpec.ofChange laysSpec)) laysCard

/-- THE TIED CARD OF 'hemkeep.Again'. -/
def againCard : Claim7 := { stood := { row := againRow, standIns := [], harness := (true, "6be3ddb04e93f81475ddec5d186431647b4d5db122d404762c467cab1b275509"), looks := true }, kinds := [], alts := [], laidByText := true, laidKinds := [.data, .handle, .pinned], laidTests := true, laidLooks := .later }
def AgainCardSaid : Prop := Claim7.holds Tryz.pinned (.plain (OpenSpec.ofChange againSpec)) againCard

/-- THE TIED CARD OF 'hemkeep.Spaced'. -/
def spacedCard : Claim7 := { stood := { row := spacedRow, standIns := [], harness := (true, "6be3ddb04e93f81475ddec5d186431647b4d5db122d404762c467cab1b275509"), looks := true }, kinds := [], alts := [], laidByText := true, laidKinds := [.data, .handle, .pinned], laidTests := true, laidLooks := .later }
def SpacedCardSaid : Prop := Claim7.holds Tryz.pinned (.plain (OpenSpec.ofChange spacedSpec)) spacedCard

/-- THE TIED CARD OF 'hemkeep.Below'. -/
def belowCard : Claim7 := { stood := { row := belowRow, standIns := [], harness := (true, "6be3ddb04e93f81475ddec5d186431647b4d5db122d404762c467cab1b275509"), looks := true }, kinds := [], alts := [], laidByText := true, laidKinds := [.data, .handle, .pinned], laidTests := true, laidLooks := .later }
def BelowCardSaid : Prop := Claim7.holds Tryz.pinned (.plain (OpenSpec.ofChange belowSpec)) belowCard

/-- THE SECOND FORM's CARD OF 'hemlaw.Parses'. -/
def parsesUptoCard : Claim7 := { stood := { row := parsesUptoRow, standIns := [], harness := (true, "6be3ddb04e93f81475ddec5d186431647b4d5db122d404762c467cab1b275509"), looks := true }, kinds := [], alts := [], laidByText := true, laidKinds := [.data, .handle, .pinned], laidTests := true, laidLooks := .later }
def ParsesUptoCardSaid : Prop := Claim7.holds Tryz.pinned (.plain (OpenSpec.upto parsesSpec)) parsesUptoCard

/-- THE SECOND FORM's CARD OF 'hemlaw.Asks'. -/
def asksUptoCard : Claim7 := { stood := { row := asksUptoRow, standIns := [], harness := (true, "6be3ddb04e93f81475ddec5d186431647b4d5db122d404762c467cab1b275509"), looks := true }, kinds := [], alts := [], laidByText := true, laidKinds := [.data, .handle, .pinned], laidTests := true, laidLooks := .later }
def AsksUptoCardSaid : Prop := Claim7.holds Tryz.pinned (.plain (OpenSpec.upto asksSpec)) asksUptoCard

/-- THE SECOND FORM's CARD OF 'hemlaw.Shows'. -/
def showsUptoCard : Claim7 := { stood := { row := showsUptoRow, standIns := [], harness := (true, "6be3ddb04e93f81475ddec5d186431647b4d5db122d404762c467cab1b275509"), looks := true }, kinds := [], alts := [], laidByText := true, laidKinds := [.data, .handle, .pinned], laidTests := true, laidLooks := .later }
def ShowsUptoCardSaid : Prop := Claim7.holds Tryz.pinned (.plain (OpenSpec.upto showsSpec)) showsUptoCard

/-- THE SECOND FORM's CARD OF 'hemlaw.Lays'. -/
def laysUptoCard : Claim7 := { stood := { row := laysUptoRow, standIns := [], harness := (true, "6be3ddb04e93f81475ddec5d186431647b4d5db122d404762c467cab1b275509"), looks := true }, kinds := [], alts := [], laidByText := true, laidKinds := [.data, .handle, .pinned], laidTests := true, laidLooks := .later }
def LaysUptoCardSaid : Prop := Claim7.holds Tryz.pinned (.plain (OpenSpec.upto laysSpec)) laysUptoCard

/-- THE SECOND FORM's CARD OF 'hemkeep.Again'. -/
def againUptoCard : Claim7 := { stood := { row := againUptoRow, standIns := [], harness := (true, "6be3ddb04e93f81475ddec5d186431647b4d5db122d404762c467cab1b275509"), looks := true }, kinds := [], alts := [], laidByText := true, laidKinds := [.data, .handle, .pinned], laidTests := true, laidLooks := .later }
def AgainUptoCardSaid : Prop := Claim7.holds Tryz.pinned (.plain (OpenSpec.upto againSpec)) againUptoCard

/-- THE SECOND FORM's CARD OF 'hemkeep.Spaced'. -/
def spacedUptoCard : Claim7 := { stood := { row := spacedUptoRow, standIns := [], harness := (true, "6be3ddb04e93f81475ddec5d186431647b4d5db122d404762c467cab1b275509"), looks := true }, kinds := [], alts := [], laidByText := true, laidKinds := [.data, .handle, .pinned], laidTests := true, laidLooks := .later }
def SpacedUptoCardSaid : Prop := Claim7.holds Tryz.pinned (.plain (OpenSpec.upto spacedSpec)) spacedUptoCard

/-- THE SECOND FORM's CARD OF 'hemkeep.Below'. -/
def belowUptoCard : Claim7 := { stood := { row := belowUptoRow, standIns := [], harness := (true, "6be3ddb04e93f81475ddec5d186431647b4d5db122d404762c467cab1b275509"), looks := true }, kinds := [], alts := [], laidByText := true, laidKinds := [.data, .handle, .pinned], laidTests := true, laidLooks := .later }
def BelowUptoCardSaid : Prop := Claim7.holds Tryz.pinned (.plain (OpenSpec.upto belowSpec)) belowUptoCard
end Rows
end Go.Proofs.YtdebjhdafnpfkaaGreatDoor
