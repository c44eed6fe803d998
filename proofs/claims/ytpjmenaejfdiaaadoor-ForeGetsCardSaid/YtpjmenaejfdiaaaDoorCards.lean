/-
  DERIVED. GIVEN WITH THE SEED: THE CARDS: each row of YtpjmenaejfdiaaaDoorRows.lean that lists a variable, with what it lists TIED to the program's text (the seventh form; the later family's looks); each row that meets fmt, with fmt's text TOLD by the authors' own Lean function (tested against real Go, not proved from fmt's source: count such statements apart). THE CARD IS WHAT COUNTS. Prove the row's statement (the work); the ties are given (YtpjmenaejfdiaaaDoorTie.lean); close each card by the builder's one call (the guide's Derived/Test/ToyasCard.lean, 'card_holds'). Laid BY PROGRAM, IN A SANDBOX (cutbox-door.mjs). By AI agents, Wed Nov 11 2026. No macro, syntax, notation, axiom, sorry.
-/
import Derived.Test.YtpjmenaejfdiaaaDoorRows
import GoSem.ClaimSeven
namespace Go.Proofs.YtpjmenaejfdiaaaDoor
namespace Rows

/-- THE TIED CARD OF 'estreatlaw12.ForeGets'. -/
def foreGetsCard : Claim7 := { stood := { row := foreGetsRow, standIns := [], harness := (true, "e56389cc3bc48691efa0fe31194509ec73e3bfd33cfcf105055719c9144e562f"), looks := true }, kinds := [], alts := [], laidByText := true, laidKinds := [.handle], laidTests := true, laidLooks := .later }
def ForeGetsCardSaid : Prop := Claim7.holds Tryd.pinned (.plain (OpenSpec.ofChange foreGetsSpec)) foreGetsCard

/-- THE TIED CARD OF 'estreatlaw12.ForeBack'. -/
def foreBackCard : Claim7 := { stood := { row := foreBackRow, standIns := [], harness := (true, "e56389cc3bc48691efa0fe31194509ec73e3bfd33cfcf105055719c9144e562f"), looks := true }, kinds := [], alts := [], laidByText := true, laidKinds := [.handle], laidTests := true, laidLooks := .later }
def ForeBackCardSaid : Prop := Claim7.holds Tryd.pinned (.plain (OpenSpec.ofChange foreBackSpec)) foreBackCard

/-- THE SECOND FORM's CARD OF 'estreatlaw12.ForeGets'. -/
def foreGetsUptoCard : Claim7 := { stood := { row := foreGetsUptoRow, standIns := [], harness := (true, "e56389cc3bc48691efa0fe31194509ec73e3bfd33cfcf105055719c9144e562f"), looks := true }, kinds := [], alts := [], laidByText := true, laidKinds := [.handle], laidTests := true, laidLooks := .later }
def ForeGetsUptoCardSaid : Prop := Claim7.holds Tryd.pinned (.plain (OpenSpec.upto foreGetsSpec)) foreGetsUptoCard

/-- THE SECOND FORM's CARD OF 'estreatlaw12.ForeBack'. -/
def foreBackUptoCard : Claim7 := { stood := { row := foreBackUptoRow, standIns := [], harness := (true, "e56389cc3bc48691efa0fe31194509ec73e3bfd33cfcf105055719c9144e562f"), looks := true }, kinds := [], alts := [], laidByText := true, laidKinds := [.handle], laidTests := true, laidLooks := .later }
def ForeBackUptoCardSaid : Prop := Claim7.holds Tryd.pinned (.plain (OpenSpec.upto foreBackSpec)) foreBackUptoCard
end Rows
end Go.Proofs.YtpjmenaejfdiaaaDoor
