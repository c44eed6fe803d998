/-
  DERIVED. GIVEN WITH THE SEED: THE CARDS: each row of YtfpbijnlmlaloaaDoorRows.lean that lists a variable, with what it lists TIED to the program's text (the seventh form; the later family's looks); each row that meets fmt, with fmt's text TOLD by the authors' own Lean function (tested against real Go, not proved from fmt's source: count such statements apart). THE CARD IS WHAT COUNTS. Prove the row's statement (the work); the ties are given (YtfpbijnlmlaloaaDoorTie.lean); close each card by the builder's one call (the guide's Derived/Test/ToyasCard.lean, 'card_holds'). Laid BY PROGRAM, IN A SANDBOX (cutbox-door.mjs). By AI agents, Wed Nov 11 2026. No macro, syntax, notation, axiom, sorry.
-/
import Derived.Test.YtfpbijnlmlaloaaDoorRows
import GoSem.ClaimSeven
namespace Go.Proofs.YtfpbijnlmlaloaaDoor
namespace Rows

/-- THE TIED CARD OF 'estreatlaw20.GrowProofs'. -/
def growProofsCard : Claim7 := { stood := { row := growProofsRow, standIns := [], harness := (true, "32e0c5a5fe2c3cd14cc48eb7c9a95e569e00c8b5df189d3edd2dd1a255e73d96"), looks := false }, kinds := [], alts := [], laidByText := true, laidKinds := [.data], laidTests := true, laidLooks := .later }
def GrowProofsCardSaid : Prop := Claim7.holds Tryd.pinned (.plain (OpenSpec.ofChange growProofsSpec)) growProofsCard

/-- THE TIED CARD OF 'estreatlaw20.GrowChecks'. -/
def growChecksCard : Claim7 := { stood := { row := growChecksRow, standIns := [], harness := (true, "32e0c5a5fe2c3cd14cc48eb7c9a95e569e00c8b5df189d3edd2dd1a255e73d96"), looks := false }, kinds := [], alts := [], laidByText := true, laidKinds := [.data], laidTests := true, laidLooks := .later }
def GrowChecksCardSaid : Prop := Claim7.holds Tryd.pinned (.plain (OpenSpec.ofChange growChecksSpec)) growChecksCard

/-- THE TIED CARD OF 'estreatlaw20.GrowSteps'. -/
def growStepsCard : Claim7 := { stood := { row := growStepsRow, standIns := [], harness := (true, "32e0c5a5fe2c3cd14cc48eb7c9a95e569e00c8b5df189d3edd2dd1a255e73d96"), looks := false }, kinds := [], alts := [], laidByText := true, laidKinds := [.data], laidTests := true, laidLooks := .later }
def GrowStepsCardSaid : Prop := Claim7.holds Tryd.pinned (.plain (OpenSpec.ofChange growStepsSpec)) growStepsCard

/-- THE SECOND FORM's CARD OF 'estreatlaw20.GrowProofs'. -/
def growProofsUptoCard : Claim7 := { stood := { row := growProofsUptoRow, standIns := [], harness := (true, "32e0c5a5fe2c3cd14cc48eb7c9a95e569e00c8b5df189d3edd2dd1a255e73d96"), looks := false }, kinds := [], alts := [], laidByText := true, laidKinds := [.data], laidTests := true, laidLooks := .later }
def GrowProofsUptoCardSaid : Prop := Claim7.holds Tryd.pinned (.plain (OpenSpec.upto growProofsSpec)) growProofsUptoCard

/-- THE SECOND FORM's CARD OF 'estreatlaw20.GrowChecks'. -/
def growChecksUptoCard : Claim7 := { stood := { row := growChecksUptoRow, standIns := [], harness := (true, "32e0c5a5fe2c3cd14cc48eb7c9a95e569e00c8b5df189d3edd2dd1a255e73d96"), looks := false }, kinds := [], alts := [], laidByText := true, laidKinds := [.data], laidTests := true, laidLooks := .later }
def GrowChecksUptoCardSaid : Prop := Claim7.holds Tryd.pinned (.plain (OpenSpec.upto growChecksSpec)) growChecksUptoCard

/-- THE SECOND FORM's CARD OF 'estreatlaw20.GrowSteps'. -/
def growStepsUptoCard : Claim7 := { stood := { row := growStepsUptoRow, standIns := [], harness := (true, "32e0c5a5fe2c3cd14cc48eb7c9a95e569e00c8b5df189d3edd2dd1a255e73d96"), looks := false }, kinds := [], alts := [], laidByText := true, laidKinds := [.data], laidTests := true, laidLooks := .later }
def GrowStepsUptoCardSaid : Prop := Claim7.holds Tryd.pinned (.plain (OpenSpec.upto growStepsSpec)) growStepsUptoCard
end Rows
end Go.Proofs.YtfpbijnlmlaloaaDoor
