/-
  DERIVED. GIVEN WITH THE SEED: THE CARDS: each row of YtdebjhdafnpfkabGreatDoorRows.lean that lists a variable, with what it lists TIED to the program's text (the seventh form; the later family's looks); each row that meets fmt, with fmt's text TOLD by the authors' own Lean function (tested against real Go, not proved from fmt's source: count such statements apart). THE CARD IS WHAT COUNTS. Prove the row's statement (the work); the ties are given (YtdebjhdafnpfkabGreatDoorTie.lean); close each card by the builder's one call (the guide's Derived/Test/ToyasCard.lean, 'card_holds'). Laid BY PROGRAM, IN A SANDBOX (cutbox-door.mjs). By AI agents, Wed Nov 11 2026. No macro, syntax, notation, axiom, sorry.
-/
import Derived.Test.YtdebjhdafnpfkabGreatDoorRows
import GoSem.ClaimSeven
namespace Go.Proofs.YtdebjhdafnpfkabGreatDoor
namespace Rows

/-- THE TIED CARD OF 'hemkeep.Fits'. -/
def fitsCard : Claim7 := { stood := { row := fitsRow, standIns := [], harness := (true, "dccb65324b57edde5bc964cf3dfee63425b8a1ca3b28af08cfd1abe230a325b4"), looks := true }, kinds := [], alts := [], laidByText := true, laidKinds := [.data, .handle, .pinned], laidTests := true, laidLooks := .later }
def FitsCardSaid : Prop := Claim7.holds Tryz.pinned (.plain (OpenSpec.ofChange fitsSpec)) fitsCard

/-- THE TIED CARD OF 'hemkeep.Kept'. -/
def keptCard : Claim7 := { stood := { row := keptRow, standIns := [], harness := (true, "dccb65324b57edde5bc964cf3dfee63425b8a1ca3b28af08cfd1abe230a325b4"), looks := true }, kinds := [], alts := [], laidByText := true, laidKinds := [.data, .handle, .pinned], laidTests := true, laidLooks := .later }
def KeptCardSaid : Prop := Claim7.holds Tryz.pinned (.plain (OpenSpec.ofChange keptSpec)) keptCard

/-- THE SECOND FORM's CARD OF 'hemkeep.Fits'. -/
def fitsUptoCard : Claim7 := { stood := { row := fitsUptoRow, standIns := [], harness := (true, "dccb65324b57edde5bc964cf3dfee63425b8a1ca3b28af08cfd1abe230a325b4"), looks := true }, kinds := [], alts := [], laidByText := true, laidKinds := [.data, .handle, .pinned], laidTests := true, laidLooks := .later }
def FitsUptoCardSaid : Prop := Claim7.holds Tryz.pinned (.plain (OpenSpec.upto fitsSpec)) fitsUptoCard

/-- THE SECOND FORM's CARD OF 'hemkeep.Kept'. -/
def keptUptoCard : Claim7 := { stood := { row := keptUptoRow, standIns := [], harness := (true, "dccb65324b57edde5bc964cf3dfee63425b8a1ca3b28af08cfd1abe230a325b4"), looks := true }, kinds := [], alts := [], laidByText := true, laidKinds := [.data, .handle, .pinned], laidTests := true, laidLooks := .later }
def KeptUptoCardSaid : Prop := Claim7.holds Tryz.pinned (.plain (OpenSpec.upto keptSpec)) keptUptoCard
end Rows
end Go.Proofs.YtdebjhdafnpfkabGreatDoor
