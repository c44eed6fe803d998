/-
  DERIVED. GIVEN WITH THE SEED: THE CARDS: each row of YteadmjgkmjeanaaDoorRows.lean that lists a variable, with what it lists TIED to the program's text (the seventh form; the later family's looks); each row that meets fmt, with fmt's text TOLD by the authors' own Lean function (tested against real Go, not proved from fmt's source: count such statements apart). THE CARD IS WHAT COUNTS. Prove the row's statement (the work); the ties are given (YteadmjgkmjeanaaDoorTie.lean); close each card by the builder's one call (the guide's Derived/Test/ToyasCard.lean, 'card_holds'). Laid BY PROGRAM, IN A SANDBOX (cutbox-door.mjs). By AI agents, Wed Nov 11 2026. No macro, syntax, notation, axiom, sorry.
-/
import Derived.Test.YteadmjgkmjeanaaDoorRows
import GoSem.ClaimSeven
namespace Go.Proofs.YteadmjgkmjeanaaDoor
namespace Rows

/-- THE TIED CARD OF 'estreatlaw10.DeltaGets'. -/
def deltaGetsCard : Claim7 := { stood := { row := deltaGetsRow, standIns := [], harness := (true, "cb0dcb4125d114a54f72e91c43f5b43fd3210ed0282822a1c440cc2f7bf02811"), looks := true }, kinds := [], alts := [], laidByText := true, laidKinds := [.handle], laidTests := true, laidLooks := .later }
def DeltaGetsCardSaid : Prop := Claim7.holds Tryd.pinned (.plain (OpenSpec.ofChange deltaGetsSpec)) deltaGetsCard

/-- THE TIED CARD OF 'estreatlaw10.DeltaBack'. -/
def deltaBackCard : Claim7 := { stood := { row := deltaBackRow, standIns := [], harness := (true, "cb0dcb4125d114a54f72e91c43f5b43fd3210ed0282822a1c440cc2f7bf02811"), looks := true }, kinds := [], alts := [], laidByText := true, laidKinds := [.handle], laidTests := true, laidLooks := .later }
def DeltaBackCardSaid : Prop := Claim7.holds Tryd.pinned (.plain (OpenSpec.ofChange deltaBackSpec)) deltaBackCard

/-- THE SECOND FORM's CARD OF 'estreatlaw10.DeltaGets'. -/
def deltaGetsUptoCard : Claim7 := { stood := { row := deltaGetsUptoRow, standIns := [], harness := (true, "cb0dcb4125d114a54f72e91c43f5b43fd3210ed0282822a1c440cc2f7bf02811"), looks := true }, kinds := [], alts := [], laidByText := true, laidKinds := [.handle], laidTests := true, laidLooks := .later }
def DeltaGetsUptoCardSaid : Prop := Claim7.holds Tryd.pinned (.plain (OpenSpec.upto deltaGetsSpec)) deltaGetsUptoCard

/-- THE SECOND FORM's CARD OF 'estreatlaw10.DeltaBack'. -/
def deltaBackUptoCard : Claim7 := { stood := { row := deltaBackUptoRow, standIns := [], harness := (true, "cb0dcb4125d114a54f72e91c43f5b43fd3210ed0282822a1c440cc2f7bf02811"), looks := true }, kinds := [], alts := [], laidByText := true, laidKinds := [.handle], laidTests := true, laidLooks := .later }
def DeltaBackUptoCardSaid : Prop := Claim7.holds Tryd.pinned (.plain (OpenSpec.upto deltaBackSpec)) deltaBackUptoCard
end Rows
end Go.Proofs.YteadmjgkmjeanaaDoor
