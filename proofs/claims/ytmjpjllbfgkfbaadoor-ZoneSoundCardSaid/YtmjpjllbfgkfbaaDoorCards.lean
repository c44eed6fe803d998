/-
  DERIVED. GIVEN WITH THE SEED: THE CARDS: each row of YtmjpjllbfgkfbaaDoorRows.lean that lists a variable, with what it lists TIED to the program's text (the seventh form; the later family's looks); each row that meets fmt, with fmt's text TOLD by the authors' own Lean function (tested against real Go, not proved from fmt's source: count such statements apart). THE CARD IS WHAT COUNTS. Prove the row's statement (the work); the ties are given (YtmjpjllbfgkfbaaDoorTie.lean); close each card by the builder's one call (the guide's Derived/Test/ToyasCard.lean, 'card_holds'). Laid BY PROGRAM, IN A SANDBOX (cutbox-door.mjs). By AI agents, Wed Nov 11 2026. No macro, syntax, notation, axiom, sorry.
-/
import Derived.Test.YtmjpjllbfgkfbaaDoorRows
import GoSem.ClaimSeven
namespace Go.Proofs.YtmjpjllbfgkfbaaDoor
namespace Rows

/-- THE TIED CARD OF 'estreatlaw17.ZoneSound'. -/
def zoneSoundCard : Claim7 := { stood := { row := zoneSoundRow, standIns := [], harness := (true, "0ea44e9912cd08857f745d98d54205d1742d74d9b781b530f2495c3d1329cabc"), looks := false }, kinds := [], alts := [], laidByText := true, laidKinds := [.wider], laidTests := true, laidLooks := .later }
def ZoneSoundCardSaid : Prop := Claim7.holds Tryd.pinned (.plain (OpenSpec.ofChange zoneSoundSpec)) zoneSoundCard

/-- THE SECOND FORM's CARD OF 'estreatlaw17.ZoneSound'. -/
def zoneSoundUptoCard : Claim7 := { stood := { row := zoneSoundUptoRow, standIns := [], harness := (true, "0ea44e9912cd08857f745d98d54205d1742d74d9b781b530f2495c3d1329cabc"), looks := false }, kinds := [], alts := [], laidByText := true, laidKinds := [.wider], laidTests := true, laidLooks := .later }
def ZoneSoundUptoCardSaid : Prop := Claim7.holds Tryd.pinned (.plain (OpenSpec.upto zoneSoundSpec)) zoneSoundUptoCard
end Rows
end Go.Proofs.YtmjpjllbfgkfbaaDoor
