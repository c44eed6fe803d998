/-
  DERIVED. GIVEN WITH THE SEED: THE CARDS: each row of YtbejglmmcmcleaaDoorRows.lean that lists a variable, with what it lists TIED to the program's text (the seventh form; the later family's looks); each row that meets fmt, with fmt's text TOLD by the authors' own Lean function (tested against real Go, not proved from fmt's source: count such statements apart). THE CARD IS WHAT COUNTS. Prove the row's statement (the work); the ties are given (YtbejglmmcmcleaaDoorTie.lean); close each card by the builder's one call (the guide's Derived/Test/ToyasCard.lean, 'card_holds'). Laid BY PROGRAM, IN A SANDBOX (cutbox-door.mjs). By AI agents, Wed Nov 11 2026. No macro, syntax, notation, axiom, sorry.
-/
import Derived.Test.YtbejglmmcmcleaaDoorRows
import GoSem.ClaimSeven
namespace Go.Proofs.YtbejglmmcmcleaaDoor
namespace Rows

/-- THE TIED CARD OF 'estreatlaw05.ShaSums'. -/
def shaSumsCard : Claim7 := { stood := { row := shaSumsRow, standIns := [], harness := (true, "ba3d9857e19a4d7062337fbeb3613c73c93993d8b7d51c02f7dadf0d970e8a9f"), looks := false }, kinds := [], alts := [], laidByText := true, laidKinds := [.data], laidTests := true, laidLooks := .later }
def ShaSumsCardSaid : Prop := Claim7.holds Tryd.pinned (.plain (OpenSpec.ofChange shaSumsSpec)) shaSumsCard

/-- THE TIED CARD OF 'estreatlaw05.ShaTagged'. -/
def shaTaggedCard : Claim7 := { stood := { row := shaTaggedRow, standIns := [], harness := (true, "ba3d9857e19a4d7062337fbeb3613c73c93993d8b7d51c02f7dadf0d970e8a9f"), looks := false }, kinds := [], alts := [], laidByText := true, laidKinds := [.data], laidTests := true, laidLooks := .later }
def ShaTaggedCardSaid : Prop := Claim7.holds Tryd.pinned (.plain (OpenSpec.ofChange shaTaggedSpec)) shaTaggedCard

/-- THE TIED CARD OF 'estreatlaw05.ShaHex'. -/
def shaHexCard : Claim7 := { stood := { row := shaHexRow, standIns := [], harness := (true, "ba3d9857e19a4d7062337fbeb3613c73c93993d8b7d51c02f7dadf0d970e8a9f"), looks := false }, kinds := [], alts := [], laidByText := true, laidKinds := [.data], laidTests := true, laidLooks := .later }
def ShaHexCardSaid : Prop := Claim7.holds Tryd.pinned (.plain (OpenSpec.ofChange shaHexSpec)) shaHexCard

/-- THE SECOND FORM's CARD OF 'estreatlaw05.ShaSums'. -/
def shaSumsUptoCard : Claim7 := { stood := { row := shaSumsUptoRow, standIns := [], harness := (true, "ba3d9857e19a4d7062337fbeb3613c73c93993d8b7d51c02f7dadf0d970e8a9f"), looks := false }, kinds := [], alts := [], laidByText := true, laidKinds := [.data], laidTests := true, laidLooks := .later }
def ShaSumsUptoCardSaid : Prop := Claim7.holds Tryd.pinned (.plain (OpenSpec.upto shaSumsSpec)) shaSumsUptoCard

/-- THE SECOND FORM's CARD OF 'estreatlaw05.ShaTagged'. -/
def shaTaggedUptoCard : Claim7 := { stood := { row := shaTaggedUptoRow, standIns := [], harness := (true, "ba3d9857e19a4d7062337fbeb3613c73c93993d8b7d51c02f7dadf0d970e8a9f"), looks := false }, kinds := [], alts := [], laidByText := true, laidKinds := [.data], laidTests := true, laidLooks := .later }
def ShaTaggedUptoCardSaid : Prop := Claim7.holds Tryd.pinned (.plain (OpenSpec.upto shaTaggedSpec)) shaTaggedUptoCard

/-- THE SECOND FORM's CARD OF 'estreatlaw05.ShaHex'. -/
def shaHexUptoCard : Claim7 := { stood := { row := shaHexUptoRow, standIns := [], harness := (true, "ba3d9857e19a4d7062337fbeb3613c73c93993d8b7d51c02f7dadf0d970e8a9f"), looks := false }, kinds := [], alts := [], laidByText := true, laidKinds := [.data], laidTests := true, laidLooks := .later }
def ShaHexUptoCardSaid : Prop := Claim7.holds Tryd.pinned (.plain (OpenSpec.upto shaHexSpec)) shaHexUptoCard
end Rows
end Go.Proofs.YtbejglmmcmcleaaDoor
