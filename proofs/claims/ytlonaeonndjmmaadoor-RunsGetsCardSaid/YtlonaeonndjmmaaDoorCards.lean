/-
  DERIVED. GIVEN WITH THE SEED: THE CARDS: each row of YtlonaeonndjmmaaDoorRows.lean that lists a variable, with what it lists TIED to the program's text (the seventh form; the later family's looks); each row that meets fmt, with fmt's text TOLD by the authors' own Lean function (tested against real Go, not proved from fmt's source: count such statements apart). THE CARD IS WHAT COUNTS. Prove the row's statement (the work); the ties are given (YtlonaeonndjmmaaDoorTie.lean); close each card by the builder's one call (the guide's Derived/Test/ToyasCard.lean, 'card_holds'). Laid BY PROGRAM, IN A SANDBOX (cutbox-door.mjs). By AI agents, Wed Nov 11 2026. No macro, syntax, notation, axiom, sorry.
-/
import Derived.Test.YtlonaeonndjmmaaDoorRows
import GoSem.ClaimSeven
namespace Go.Proofs.YtlonaeonndjmmaaDoor
namespace Rows

/-- THE TIED CARD OF 'estreatlaw09.RunsGets'. -/
def runsGetsCard : Claim7 := { stood := { row := runsGetsRow, standIns := [], harness := (true, "8f21bb4366f8c3c612cdac0c314a4fdeadf1e8aa2c5be0f0c6555f4705104383"), looks := true }, kinds := [], alts := [], laidByText := true, laidKinds := [.handle], laidTests := true, laidLooks := .later }
def RunsGetsCardSaid : Prop := Claim7.holds Tryd.pinned (.plain (OpenSpec.ofChange runsGetsSpec)) runsGetsCard

/-- THE TIED CARD OF 'estreatlaw09.RunsBack'. -/
def runsBackCard : Claim7 := { stood := { row := runsBackRow, standIns := [], harness := (true, "8f21bb4366f8c3c612cdac0c314a4fdeadf1e8aa2c5be0f0c6555f4705104383"), looks := true }, kinds := [], alts := [], laidByText := true, laidKinds := [.handle], laidTests := true, laidLooks := .later }
def RunsBackCardSaid : Prop := Claim7.holds Tryd.pinned (.plain (OpenSpec.ofChange runsBackSpec)) runsBackCard

/-- THE SECOND FORM's CARD OF 'estreatlaw09.RunsGets'. -/
def runsGetsUptoCard : Claim7 := { stood := { row := runsGetsUptoRow, standIns := [], harness := (true, "8f21bb4366f8c3c612cdac0c314a4fdeadf1e8aa2c5be0f0c6555f4705104383"), looks := true }, kinds := [], alts := [], laidByText := true, laidKinds := [.handle], laidTests := true, laidLooks := .later }
def RunsGetsUptoCardSaid : Prop := Claim7.holds Tryd.pinned (.plain (OpenSpec.upto runsGetsSpec)) runsGetsUptoCard

/-- THE SECOND FORM's CARD OF 'estreatlaw09.RunsBack'. -/
def runsBackUptoCard : Claim7 := { stood := { row := runsBackUptoRow, standIns := [], harness := (true, "8f21bb4366f8c3c612cdac0c314a4fdeadf1e8aa2c5be0f0c6555f4705104383"), looks := true }, kinds := [], alts := [], laidByText := true, laidKinds := [.handle], laidTests := true, laidLooks := .later }
def RunsBackUptoCardSaid : Prop := Claim7.holds Tryd.pinned (.plain (OpenSpec.upto runsBackSpec)) runsBackUptoCard
end Rows
end Go.Proofs.YtlonaeonndjmmaaDoor
