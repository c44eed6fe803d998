/-
  DERIVED. GIVEN WITH THE SEED: THE CARDS: each row of YtppeagjklndidaaGreatDoorRows.lean that lists a variable, with what it lists TIED to the program's text (the seventh form; the later family's looks); each row that meets fmt, with fmt's text TOLD by the authors' own Lean function (tested against real Go, not proved from fmt's source: count such statements apart). THE CARD IS WHAT COUNTS. Prove the row's statement (the work); the ties are given (YtppeagjklndidaaGreatDoorTie.lean); close each card by the builder's one call (the guide's Derived/Test/ToyasCard.lean, 'card_holds'). Laid BY PROGRAM, IN A SANDBOX (cutbox-door.mjs). By AI agents, Wed Nov 11 2026. No macro, syntax, notation, axiom, sorry.
-/
import Derived.Test.YtppeagjklndidaaGreatDoorRows
import GoSem.ClaimSeven
namespace Go.Proofs.YtppeagjklndidaaGreatDoor
namespace Rows

/-- THE TIED CARD OF 'estreatlaw11.DictGets'. -/
def dictGetsCard : Claim7 := { stood := { row := dictGetsRow, standIns := [], harness := (true, "8d0c181bab8b9a33ce4aa84079b41087bcdb1f0bae7d8818780be07a92f7a305"), looks := true }, kinds := [], alts := [], laidByText := true, laidKinds := [.handle], laidTests := true, laidLooks := .later }
def DictGetsCardSaid : Prop := Claim7.holds Tryz.pinned (.plain (OpenSpec.ofChange dictGetsSpec)) dictGetsCard

/-- THE TIED CARD OF 'estreatlaw13.TextsGets'. -/
def textsGetsCard : Claim7 := { stood := { row := textsGetsRow, standIns := [], harness := (true, "8d0c181bab8b9a33ce4aa84079b41087bcdb1f0bae7d8818780be07a92f7a305"), looks := true }, kinds := [], alts := [], laidByText := true, laidKinds := [.handle], laidTests := true, laidLooks := .later }
def TextsGetsCardSaid : Prop := Claim7.holds Tryz.pinned (.plain (OpenSpec.ofChange textsGetsSpec)) textsGetsCard

/-- THE SECOND FORM's CARD OF 'estreatlaw11.DictGets'. -/
def dictGetsUptoCard : Claim7 := { stood := { row := dictGetsUptoRow, standIns := [], harness := (true, "8d0c181bab8b9a33ce4aa84079b41087bcdb1f0bae7d8818780be07a92f7a305"), looks := true }, kinds := [], alts := [], laidByText := true, laidKinds := [.handle], laidTests := true, laidLooks := .later }
def DictGetsUptoCardSaid : Prop := Claim7.holds Tryz.pinned (.plain (OpenSpec.upto dictGetsSpec)) dictGetsUptoCard

/-- THE SECOND FORM's CARD OF 'estreatlaw13.TextsGets'. -/
def textsGetsUptoCard : Claim7 := { stood := { row := textsGetsUptoRow, standIns := [], harness := (true, "8d0c181bab8b9a33ce4aa84079b41087bcdb1f0bae7d8818780be07a92f7a305"), looks := true }, kinds := [], alts := [], laidByText := true, laidKinds := [.handle], laidTests := true, laidLooks := .later }
def TextsGetsUptoCardSaid : Prop := Claim7.holds Tryz.pinned (.plain (OpenSpec.upto textsGetsSpec)) textsGetsUptoCard
end Rows
end Go.Proofs.YtppeagjklndidaaGreatDoor
