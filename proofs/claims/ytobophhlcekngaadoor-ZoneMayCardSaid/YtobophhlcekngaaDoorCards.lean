/-
  DERIVED. GIVEN WITH THE SEED: THE CARDS: each row of YtobophhlcekngaaDoorRows.lean that lists a variable, with what it lists TIED to the program's text (the seventh form; the later family's looks); each row that meets fmt, with fmt's text TOLD by the authors' own Lean function (tested against real Go, not proved from fmt's source: count such statements apart). THE CARD IS WHAT COUNTS. Prove the row's statement (the work); the ties are given (YtobophhlcekngaaDoorTie.lean); close each card by the builder's one call (the guide's Derived/Test/ToyasCard.lean, 'card_holds'). Laid BY PROGRAM, IN A SANDBOX (cutbox-door.mjs). By AI agents, Wed Nov 11 2026. No macro, syntax, notation, axiom, sorry.
-/
import Derived.Test.YtobophhlcekngaaDoorRows
import GoSem.ClaimSeven
namespace Go.Proofs.YtobophhlcekngaaDoor
namespace Rows

/-- THE TIED CARD OF 'estreatlaw17.ZoneMay'. -/
def zoneMayCard : Claim7 := { stood := { row := zoneMayRow, standIns := [], harness := (true, "4236ff0b94e113cd83bcabb8ef3b8f8c40664f78b03bf64bbe0f364d74633dc4"), looks := false }, kinds := [], alts := [], laidByText := true, laidKinds := [.wider], laidTests := true, laidLooks := .later }
def ZoneMayCardSaid : Prop := Claim7.holds Tryd.pinned (.plain (OpenSpec.ofChange zoneMaySpec)) zoneMayCard

/-- THE SECOND FORM's CARD OF 'estreatlaw17.ZoneMay'. -/
def zoneMayUptoCard : Claim7 := { stood := { row := zoneMayUptoRow, standIns := [], harness := (true, "4236ff0b94e113cd83bcabb8ef3b8f8c40664f78b03bf64bbe0f364d74633dc4"), looks := false }, kinds := [], alts := [], laidByText := true, laidKinds := [.wider], laidTests := true, laidLooks := .later }
def ZoneMayUptoCardSaid : Prop := Claim7.holds Tryd.pinned (.plain (OpenSpec.upto zoneMaySpec)) zoneMayUptoCard
end Rows
end Go.Proofs.YtobophhlcekngaaDoor
