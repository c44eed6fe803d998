/-
  DERIVED. GIVEN WITH THE SEED: THE CARDS: each row of YticanhidahkhfaaGreatDoorRows.lean that lists a variable, with what it lists TIED to the program's text (the seventh form; the later family's looks); each row that meets fmt, with fmt's text TOLD by the authors' own Lean function (tested against real Go, not proved from fmt's source: count such statements apart). THE CARD IS WHAT COUNTS. Prove the row's statement (the work); the ties are given (YticanhidahkhfaaGreatDoorTie.lean); close each card by the builder's one call (the guide's Derived/Test/ToyasCard.lean, 'card_holds'). Laid BY PROGRAM, IN A SANDBOX (cutbox-door.mjs). By AI agents, Wed Nov 11 2026. No macro, syntax, notation, axiom, sorry.
-/
import Derived.Test.YticanhidahkhfaaGreatDoorRows
import GoSem.ClaimSeven
namespace Go.Proofs.YticanhidahkhfaaGreatDoor
namespace Rows

/-- THE TIED CARD OF 'estreatlaw18.GroupPlays'. -/
def groupPlaysCard : Claim7 := { stood := { row := groupPlaysRow, standIns := [], harness := (true, "2b44091985bf5797cc74b2daeb841650d9839597c2b76af3947b9bf6f43bcb7d"), looks := true }, kinds := [], alts := [], laidByText := true, laidKinds := [.handle, .data], laidTests := true, laidLooks := .later }
def GroupPlaysCardSaid : Prop := Claim7.holds Tryz.pinned (.plain (OpenSpec.ofChange groupPlaysSpec)) groupPlaysCard

/-- THE TIED CARD OF 'estreatlaw18.GroupHeaders'. -/
def groupHeadersCard : Claim7 := { stood := { row := groupHeadersRow, standIns := [], harness := (true, "2b44091985bf5797cc74b2daeb841650d9839597c2b76af3947b9bf6f43bcb7d"), looks := true }, kinds := [], alts := [], laidByText := true, laidKinds := [.handle, .data], laidTests := true, laidLooks := .later }
def GroupHeadersCardSaid : Prop := Claim7.holds Tryz.pinned (.plain (OpenSpec.ofChange groupHeadersSpec)) groupHeadersCard

/-- THE TIED CARD OF 'estreatlaw18.GroupOpens'. -/
def groupOpensCard : Claim7 := { stood := { row := groupOpensRow, standIns := [], harness := (true, "2b44091985bf5797cc74b2daeb841650d9839597c2b76af3947b9bf6f43bcb7d"), looks := true }, kinds := [], alts := [], laidByText := true, laidKinds := [.handle, .data], laidTests := true, laidLooks := .later }
def GroupOpensCardSaid : Prop := Claim7.holds Tryz.pinned (.plain (OpenSpec.ofChange groupOpensSpec)) groupOpensCard

/-- THE TIED CARD OF 'estreatlaw18.GroupOrder'. -/
def groupOrderCard : Claim7 := { stood := { row := groupOrderRow, standIns := [], harness := (true, "2b44091985bf5797cc74b2daeb841650d9839597c2b76af3947b9bf6f43bcb7d"), looks := true }, kinds := [], alts := [], laidByText := true, laidKinds := [.handle, .data], laidTests := true, laidLooks := .later }
def GroupOrderCardSaid : Prop := Claim7.holds Tryz.pinned (.plain (OpenSpec.ofChange groupOrderSpec)) groupOrderCard

/-- THE SECOND FORM's CARD OF 'estreatlaw18.GroupPlays'. -/
def groupPlaysUptoCard : Claim7 := { stood := { row := groupPlaysUptoRow, standIns := [], harness := (true, "2b44091985bf5797cc74b2daeb841650d9839597c2b76af3947b9bf6f43bcb7d"), looks := true }, kinds := [], alts := [], laidByText := true, laidKinds := [.handle, .data], laidTests := true, laidLooks := .later }
def GroupPlaysUptoCardSaid : Prop := Claim7.holds Tryz.pinned (.plain (OpenSpec.upto groupPlaysSpec)) groupPlaysUptoCard

/-- THE SECOND FORM's CARD OF 'estreatlaw18.GroupHeaders'. -/
def groupHeadersUptoCard : Claim7 := { stood := { row := groupHeadersUptoRow, standIns := [], harness := (true, "2b44091985bf5797cc74b2daeb841650d9839597c2b76af3947b9bf6f43bcb7d"), looks := true }, kinds := [], alts := [], laidByText := true, laidKinds := [.handle, .data], laidTests := true, laidLooks := .later }
def GroupHeadersUptoCardSaid : Prop := Claim7.holds Tryz.pinned (.plain (OpenSpec.upto groupHeadersSpec)) groupHeadersUptoCard

/-- THE SECOND FORM's CARD OF 'estreatlaw18.GroupOpens'. -/
def groupOpensUptoCard : Claim7 := { stood := { row := groupOpensUptoRow, standIns := [], harness := (true, "2b44091985bf5797cc74b2daeb841650d9839597c2b76af3947b9bf6f43bcb7d"), looks := true }, kinds := [], alts := [], laidByText := true, laidKinds := [.handle, .data], laidTests := true, laidLooks := .later }
def GroupOpensUptoCardSaid : Prop := Claim7.holds Tryz.pinned (.plain (OpenSpec.upto groupOpensSpec)) groupOpensUptoCard

/-- THE SECOND FORM's CARD OF 'estreatlaw18.GroupOrder'. -/
def groupOrderUptoCard : Claim7 := { stood := { row := groupOrderUptoRow, standIns := [], harness := (true, "2b44091985bf5797cc74b2daeb841650d9839597c2b76af3947b9bf6f43bcb7d"), looks := true }, kinds := [], alts := [], laidByText := true, laidKinds := [.handle, .data], laidTests := true, laidLooks := .later }
def GroupOrderUptoCardSaid : Prop := Claim7.holds Tryz.pinned (.plain (OpenSpec.upto groupOrderSpec)) groupOrderUptoCard
end Rows
end Go.Proofs.YticanhidahkhfaaGreatDoor
