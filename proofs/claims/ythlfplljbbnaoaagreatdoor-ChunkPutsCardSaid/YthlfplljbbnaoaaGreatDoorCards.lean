/-
  DERIVED. GIVEN WITH THE SEED: THE CARDS: each row of YthlfplljbbnaoaaGreatDoorRows.lean that lists a variable, with what it lists TIED to the program's text (the seventh form; the later family's looks); each row that meets fmt, with fmt's text TOLD by the authors' own Lean function (tested against real Go, not proved from fmt's source: count such statements apart). THE CARD IS WHAT COUNTS. Prove the row's statement (the work); the ties are given (YthlfplljbbnaoaaGreatDoorTie.lean); close each card by the builder's one call (the guide's Derived/Test/ToyasCard.lean, 'card_holds'). Laid BY PROGRAM, IN A SANDBOX (cutbox-door.mjs). By AI agents, Wed Nov 11 2026. No macro, syntax, notation, axiom, sorry.
-/
import Derived.Test.YthlfplljbbnaoaaGreatDoorRows
import GoSem.ClaimSeven
namespace Go.Proofs.YthlfplljbbnaoaaGreatDoor
namespace Rows

/-- THE TIED CARD OF 'estreatlaw14.ChunkPuts'. -/
def chunkPutsCard : Claim7 := { stood := { row := chunkPutsRow, standIns := [], harness := (true, "f7069a8ba44fb90c4611762419dbd9ec88ff68d6aaf38e606909b2f519a1e8ef"), looks := true }, kinds := [], alts := [], laidByText := true, laidKinds := [.handle], laidTests := true, laidLooks := .later }
def ChunkPutsCardSaid : Prop := Claim7.holds Tryz.pinned (.plain (OpenSpec.ofChange chunkPutsSpec)) chunkPutsCard

/-- THE TIED CARD OF 'estreatlaw14.ChunkBack'. -/
def chunkBackCard : Claim7 := { stood := { row := chunkBackRow, standIns := [], harness := (true, "f7069a8ba44fb90c4611762419dbd9ec88ff68d6aaf38e606909b2f519a1e8ef"), looks := true }, kinds := [], alts := [], laidByText := true, laidKinds := [.handle], laidTests := true, laidLooks := .later }
def ChunkBackCardSaid : Prop := Claim7.holds Tryz.pinned (.plain (OpenSpec.ofChange chunkBackSpec)) chunkBackCard

/-- THE TIED CARD OF 'estreatlaw14.ChunkAgain'. -/
def chunkAgainCard : Claim7 := { stood := { row := chunkAgainRow, standIns := [], harness := (true, "f7069a8ba44fb90c4611762419dbd9ec88ff68d6aaf38e606909b2f519a1e8ef"), looks := true }, kinds := [], alts := [], laidByText := true, laidKinds := [.handle], laidTests := true, laidLooks := .later }
def ChunkAgainCardSaid : Prop := Claim7.holds Tryz.pinned (.plain (OpenSpec.ofChange chunkAgainSpec)) chunkAgainCard

/-- THE TIED CARD OF 'estreatlaw14.ChunkNulls'. -/
def chunkNullsCard : Claim7 := { stood := { row := chunkNullsRow, standIns := [], harness := (true, "f7069a8ba44fb90c4611762419dbd9ec88ff68d6aaf38e606909b2f519a1e8ef"), looks := true }, kinds := [], alts := [], laidByText := true, laidKinds := [.handle], laidTests := true, laidLooks := .later }
def ChunkNullsCardSaid : Prop := Claim7.holds Tryz.pinned (.plain (OpenSpec.ofChange chunkNullsSpec)) chunkNullsCard

/-- THE SECOND FORM's CARD OF 'estreatlaw14.ChunkPuts'. -/
def chunkPutsUptoCard : Claim7 := { stood := { row := chunkPutsUptoRow, standIns := [], harness := (true, "f7069a8ba44fb90c4611762419dbd9ec88ff68d6aaf38e606909b2f519a1e8ef"), looks := true }, kinds := [], alts := [], laidByText := true, laidKinds := [.handle], laidTests := true, laidLooks := .later }
def ChunkPutsUptoCardSaid : Prop := Claim7.holds Tryz.pinned (.plain (OpenSpec.upto chunkPutsSpec)) chunkPutsUptoCard

/-- THE SECOND FORM's CARD OF 'estreatlaw14.ChunkBack'. -/
def chunkBackUptoCard : Claim7 := { stood := { row := chunkBackUptoRow, standIns := [], harness := (true, "f7069a8ba44fb90c4611762419dbd9ec88ff68d6aaf38e606909b2f519a1e8ef"), looks := true }, kinds := [], alts := [], laidByText := true, laidKinds := [.handle], laidTests := true, laidLooks := .later }
def ChunkBackUptoCardSaid : Prop := Claim7.holds Tryz.pinned (.plain (OpenSpec.upto chunkBackSpec)) chunkBackUptoCard

/-- THE SECOND FORM's CARD OF 'estreatlaw14.ChunkAgain'. -/
def chunkAgainUptoCard : Claim7 := { stood := { row := chunkAgainUptoRow, standIns := [], harness := (true, "f7069a8ba44fb90c4611762419dbd9ec88ff68d6aaf38e606909b2f519a1e8ef"), looks := true }, kinds := [], alts := [], laidByText := true, laidKinds := [.handle], laidTests := true, laidLooks := .later }
def ChunkAgainUptoCardSaid : Prop := Claim7.holds Tryz.pinned (.plain (OpenSpec.upto chunkAgainSpec)) chunkAgainUptoCard

/-- THE SECOND FORM's CARD OF 'estreatlaw14.ChunkNulls'. -/
def chunkNullsUptoCard : Claim7 := { stood := { row := chunkNullsUptoRow, standIns := [], harness := (true, "f7069a8ba44fb90c4611762419dbd9ec88ff68d6aaf38e606909b2f519a1e8ef"), looks := true }, kinds := [], alts := [], laidByText := true, laidKinds := [.handle], laidTests := true, laidLooks := .later }
def ChunkNullsUptoCardSaid : Prop := Claim7.holds Tryz.pinned (.plain (OpenSpec.upto chunkNullsSpec)) chunkNullsUptoCard
end Rows
end Go.Proofs.YthlfplljbbnaoaaGreatDoor
