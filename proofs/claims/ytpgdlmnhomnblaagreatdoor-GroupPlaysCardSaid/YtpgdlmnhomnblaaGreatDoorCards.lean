/-
  DERIVED. GIVEN WITH THE SEED: THE CARDS: each row of YtpgdlmnhomnblaaGreatDoorRows.lean that lists a variable, with what it lists TIED to the program's text (the seventh form; the later family's looks); each row that meets fmt, with fmt's text TOLD by the authors' own Lean function (tested against real Go, not proved from fmt's source: count such statements apart). THE CARD IS WHAT COUNTS. Prove the row's statement (the work); the ties are given (YtpgdlmnhomnblaaGreatDoorTie.lean); close each card by the builder's one call (the guide's Derived/Test/ToyasCard.lean, 'card_holds'). Laid BY PROGRAM, IN A SANDBOX (cutbox-door.mjs). By AI agents, Wed Nov 11 2026. No macro, syntax, notation, axiom, sorry.
-/
import Derived.Test.YtpgdlmnhomnblaaGreatDoorRows
import GoSem.ClaimSeven
namespace Go.Proofs.YtpgdlmnhomnblaaGreatDoor
namespace Rows

/-- THE TIED CARD OF 'estreatlaw18.GroupPlays'. -/
def groupPlaysCard : Claim7 := { stood := { row := groupPlaysRow, standIns := [], harness := (true, "48c8fb186d2b310151fff6a8d3a8591a5c4a6bb352641036b6f0cf7b15151154"), looks := true }, kinds := [], alts := [], laidByText := true, laidKinds := [.handle, .data], laidTests := true, laidLooks := .later }
def GroupPlaysCardSaid : Prop := Claim7.holds Tryz.pinned (.plain (OpenSpec.ofChange groupPlaysSpec)) groupPlaysCard

/-- THE SECOND FORM's CARD OF 'estreatlaw18.GroupPlays'. -/
def groupPlaysUptoCard : Claim7 := { stood := { row := groupPlaysUptoRow, standIns := [], harness := (true, "48c8fb186d2b310151fff6a8d3a8591a5c4a6bb352641036b6f0cf7b15151154"), looks := true }, kinds := [], alts := [], laidByText := true, laidKinds := [.handle, .data], laidTests := true, laidLooks := .later }
def GroupPlaysUptoCardSaid : Prop := Claim7.holds Tryz.pinned (.plain (OpenSpec.upto groupPlaysSpec)) groupPlaysUptoCard
end Rows
end Go.Proofs.YtpgdlmnhomnblaaGreatDoor
