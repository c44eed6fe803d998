/-
  DERIVED. GIVEN WITH THE SEED: THE CARDS: each row of YtjpcenbleolbgaaDoorRows.lean that lists a variable, with what it lists TIED to the program's text (the seventh form; the later family's looks); each row that meets fmt, with fmt's text TOLD by the authors' own Lean function (tested against real Go, not proved from fmt's source: count such statements apart). THE CARD IS WHAT COUNTS. Prove the row's statement (the work); the ties are given (YtjpcenbleolbgaaDoorTie.lean); close each card by the builder's one call (the guide's Derived/Test/ToyasCard.lean, 'card_holds'). Laid BY PROGRAM, IN A SANDBOX (cutbox-door.mjs). By AI agents, Wed Nov 11 2026. No macro, syntax, notation, axiom, sorry.
-/
import Derived.Test.YtjpcenbleolbgaaDoorRows
import GoSem.ClaimSeven
namespace Go.Proofs.YtjpcenbleolbgaaDoor
namespace Rows

/-- THE TIED CARD OF 'estreatlaw08.PlainGets'. -/
def plainGetsCard : Claim7 := { stood := { row := plainGetsRow, standIns := [], harness := (true, "7e4c08da8877d6e29144184016b8166615305113610040d35ae12be5e5ccfa37"), looks := true }, kinds := [], alts := [], laidByText := true, laidKinds := [.handle], laidTests := true, laidLooks := .later }
def PlainGetsCardSaid : Prop := Claim7.holds Tryd.pinned (.plain (OpenSpec.ofChange plainGetsSpec)) plainGetsCard

/-- THE TIED CARD OF 'estreatlaw08.PlainBack'. -/
def plainBackCard : Claim7 := { stood := { row := plainBackRow, standIns := [], harness := (true, "7e4c08da8877d6e29144184016b8166615305113610040d35ae12be5e5ccfa37"), looks := true }, kinds := [], alts := [], laidByText := true, laidKinds := [.handle], laidTests := true, laidLooks := .later }
def PlainBackCardSaid : Prop := Claim7.holds Tryd.pinned (.plain (OpenSpec.ofChange plainBackSpec)) plainBackCard

/-- THE SECOND FORM's CARD OF 'estreatlaw08.PlainGets'. -/
def plainGetsUptoCard : Claim7 := { stood := { row := plainGetsUptoRow, standIns := [], harness := (true, "7e4c08da8877d6e29144184016b8166615305113610040d35ae12be5e5ccfa37"), looks := true }, kinds := [], alts := [], laidByText := true, laidKinds := [.handle], laidTests := true, laidLooks := .later }
def PlainGetsUptoCardSaid : Prop := Claim7.holds Tryd.pinned (.plain (OpenSpec.upto plainGetsSpec)) plainGetsUptoCard

/-- THE SECOND FORM's CARD OF 'estreatlaw08.PlainBack'. -/
def plainBackUptoCard : Claim7 := { stood := { row := plainBackUptoRow, standIns := [], harness := (true, "7e4c08da8877d6e29144184016b8166615305113610040d35ae12be5e5ccfa37"), looks := true }, kinds := [], alts := [], laidByText := true, laidKinds := [.handle], laidTests := true, laidLooks := .later }
def PlainBackUptoCardSaid : Prop := Claim7.holds Tryd.pinned (.plain (OpenSpec.upto plainBackSpec)) plainBackUptoCard
end Rows
end Go.Proofs.YtjpcenbleolbgaaDoor
