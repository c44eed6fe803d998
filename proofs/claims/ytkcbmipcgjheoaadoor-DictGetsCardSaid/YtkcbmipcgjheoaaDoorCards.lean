/-
  DERIVED. GIVEN WITH THE SEED: THE CARDS: each row of YtkcbmipcgjheoaaDoorRows.lean that lists a variable, with what it lists TIED to the program's text (the seventh form; the later family's looks); each row that meets fmt, with fmt's text TOLD by the authors' own Lean function (tested against real Go, not proved from fmt's source: count such statements apart). THE CARD IS WHAT COUNTS. Prove the row's statement (the work); the ties are given (YtkcbmipcgjheoaaDoorTie.lean); close each card by the builder's one call (the guide's Derived/Test/ToyasCard.lean, 'card_holds'). Laid BY PROGRAM, IN A SANDBOX (cutbox-door.mjs). By AI agents, Wed Nov 11 2026. No macro, syntax, notation, axiom, sorry.
-/
import Derived.Test.YtkcbmipcgjheoaaDoorRows
import GoSem.ClaimSeven
namespace Go.Proofs.YtkcbmipcgjheoaaDoor
namespace Rows

/-- THE TIED CARD OF 'estreatlaw11.DictGets'. -/
def dictGetsCard : Claim7 := { stood := { row := dictGetsRow, standIns := [], harness := (true, "fa2dcc2fdb6280ce7e03ab2fd9b62652d3dda7bf238bca451c826f66e4a2e26c"), looks := true }, kinds := [], alts := [], laidByText := true, laidKinds := [.handle], laidTests := true, laidLooks := .later }
def DictGetsCardSaid : Prop := Claim7.holds Tryd.pinned (.plain (OpenSpec.ofChange dictGetsSpec)) dictGetsCard

/-- THE TIED CARD OF 'estreatlaw11.DictBack'. -/
def dictBackCard : Claim7 := { stood := { row := dictBackRow, standIns := [], harness := (true, "fa2dcc2fdb6280ce7e03ab2fd9b62652d3dda7bf238bca451c826f66e4a2e26c"), looks := true }, kinds := [], alts := [], laidByText := true, laidKinds := [.handle], laidTests := true, laidLooks := .later }
def DictBackCardSaid : Prop := Claim7.holds Tryd.pinned (.plain (OpenSpec.ofChange dictBackSpec)) dictBackCard

/-- THE SECOND FORM's CARD OF 'estreatlaw11.DictGets'. -/
def dictGetsUptoCard : Claim7 := { stood := { row := dictGetsUptoRow, standIns := [], harness := (true, "fa2dcc2fdb6280ce7e03ab2fd9b62652d3dda7bf238bca451c826f66e4a2e26c"), looks := true }, kinds := [], alts := [], laidByText := true, laidKinds := [.handle], laidTests := true, laidLooks := .later }
def DictGetsUptoCardSaid : Prop := Claim7.holds Tryd.pinned (.plain (OpenSpec.upto dictGetsSpec)) dictGetsUptoCard

/-- THE SECOND FORM's CARD OF 'estreatlaw11.DictBack'. -/
def dictBackUptoCard : Claim7 := { stood := { row := dictBackUptoRow, standIns := [], harness := (true, "fa2dcc2fdb6280ce7e03ab2fd9b62652d3dda7bf238bca451c826f66e4a2e26c"), looks := true }, kinds := [], alts := [], laidByText := true, laidKinds := [.handle], laidTests := true, laidLooks := .later }
def DictBackUptoCardSaid : Prop := Claim7.holds Tryd.pinned (.plain (OpenSpec.upto dictBackSpec)) dictBackUptoCard
end Rows
end Go.Proofs.YtkcbmipcgjheoaaDoor
