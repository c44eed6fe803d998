/-
  DERIVED. GIVEN WITH THE SEED: THE CARDS: each row of YtphecljgbnkmlaaDoorRows.lean that lists a variable, with what it lists TIED to the program's text (the seventh form; the later family's looks); each row that meets fmt, with fmt's text TOLD by the authors' own Lean function (tested against real Go, not proved from fmt's source: count such statements apart). THE CARD IS WHAT COUNTS. Prove the row's statement (the work); the ties are given (YtphecljgbnkmlaaDoorTie.lean); close each card by the builder's one call (the guide's Derived/Test/ToyasCard.lean, 'card_holds'). Laid BY PROGRAM, IN A SANDBOX (cutbox-door.mjs). By AI agents, Wed Nov 11 2026. No macro, syntax, notation, axiom, sorry.
-/
import Derived.Test.YtphecljgbnkmlaaDoorRows
import GoSem.ClaimSeven
namespace Go.Proofs.YtphecljgbnkmlaaDoor
namespace Rows

/-- THE TIED CARD OF 'estreatlaw01.NumReads'. -/
def numReadsCard : Claim7 := { stood := { row := numReadsRow, standIns := [], harness := (true, "c0b9938ef7abc5316eddd9d006707ad8bc27c56b12763a360b3a0bede05b8212"), looks := true }, kinds := [], alts := [], laidByText := true, laidKinds := [.handle], laidTests := true, laidLooks := .later }
def NumReadsCardSaid : Prop := Claim7.holds Tryd.pinned (.plain (OpenSpec.ofChange numReadsSpec)) numReadsCard

/-- THE TIED CARD OF 'estreatlaw01.NumBack'. -/
def numBackCard : Claim7 := { stood := { row := numBackRow, standIns := [], harness := (true, "c0b9938ef7abc5316eddd9d006707ad8bc27c56b12763a360b3a0bede05b8212"), looks := true }, kinds := [], alts := [], laidByText := true, laidKinds := [.handle], laidTests := true, laidLooks := .later }
def NumBackCardSaid : Prop := Claim7.holds Tryd.pinned (.plain (OpenSpec.ofChange numBackSpec)) numBackCard

/-- THE TIED CARD OF 'estreatlaw01.NumCut'. -/
def numCutCard : Claim7 := { stood := { row := numCutRow, standIns := [], harness := (true, "c0b9938ef7abc5316eddd9d006707ad8bc27c56b12763a360b3a0bede05b8212"), looks := true }, kinds := [], alts := [], laidByText := true, laidKinds := [.handle], laidTests := true, laidLooks := .later }
def NumCutCardSaid : Prop := Claim7.holds Tryd.pinned (.plain (OpenSpec.ofChange numCutSpec)) numCutCard

/-- THE SECOND FORM's CARD OF 'estreatlaw01.NumReads'. -/
def numReadsUptoCard : Claim7 := { stood := { row := numReadsUptoRow, standIns := [], harness := (true, "c0b9938ef7abc5316eddd9d006707ad8bc27c56b12763a360b3a0bede05b8212"), looks := true }, kinds := [], alts := [], laidByText := true, laidKinds := [.handle], laidTests := true, laidLooks := .later }
def NumReadsUptoCardSaid : Prop := Claim7.holds Tryd.pinned (.plain (OpenSpec.upto numReadsSpec)) numReadsUptoCard

/-- THE SECOND FORM's CARD OF 'estreatlaw01.NumBack'. -/
def numBackUptoCard : Claim7 := { stood := { row := numBackUptoRow, standIns := [], harness := (true, "c0b9938ef7abc5316eddd9d006707ad8bc27c56b12763a360b3a0bede05b8212"), looks := true }, kinds := [], alts := [], laidByText := true, laidKinds := [.handle], laidTests := true, laidLooks := .later }
def NumBackUptoCardSaid : Prop := Claim7.holds Tryd.pinned (.plain (OpenSpec.upto numBackSpec)) numBackUptoCard

/-- THE SECOND FORM's CARD OF 'estreatlaw01.NumCut'. -/
def numCutUptoCard : Claim7 := { stood := { row := numCutUptoRow, standIns := [], harness := (true, "c0b9938ef7abc5316eddd9d006707ad8bc27c56b12763a360b3a0bede05b8212"), looks := true }, kinds := [], alts := [], laidByText := true, laidKinds := [.handle], laidTests := true, laidLooks := .later }
def NumCutUptoCardSaid : Prop := Claim7.holds Tryd.pinned (.plain (OpenSpec.upto numCutSpec)) numCutUptoCard
end Rows
end Go.Proofs.YtphecljgbnkmlaaDoor
