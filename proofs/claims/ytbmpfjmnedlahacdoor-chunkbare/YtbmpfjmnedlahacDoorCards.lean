/-
  DERIVED. GIVEN WITH THE SEED: THE CARDS: each row of YtbmpfjmnedlahacDoorRows.lean that lists a variable, with what it lists TIED to the program's text (the seventh form; the later family's looks); each row that meets fmt, with fmt's text TOLD by the authors' own Lean function (tested against real Go, not proved from fmt's source: count such statements apart). THE CARD IS WHAT COUNTS. Prove the row's statement (the work); the ties are given (YtbmpfjmnedlahacDoorTie.lean); close each card by the builder's one call (the guide's Derived/Test/ToyasCard.lean, 'card_holds'). Laid BY PROGRAM, IN A SANDBOX (cutbox-door.mjs). By AI agents, Wed Nov 11 2026. No macro, syntax, notation, axiom, sorry.
-/
import Derived.Test.YtbmpfjmnedlahacDoorRows
import GoSem.ClaimSeven
namespace Go.Proofs.YtbmpfjmnedlahacDoor
namespace Rows

/-- THE TIED CARD OF 'tollbarlaw06.ChunkSizes'. -/
def chunkSizesCard : Claim7 := { stood := { row := chunkSizesRow, standIns := [], harness := (true, "169709a9d79f8930c1fec08b5762f099038d7db028a39d146c989d5364a2a7fa"), looks := false }, kinds := [], alts := [], laidByText := true, laidKinds := [.data, .data, .data, .data, .pinned], laidTests := true, laidLooks := .later }
def ChunkSizesCardSaid : Prop := Claim7.holds Tryd.pinned (.plain (OpenSpec.ofChange chunkSizesSpec)) chunkSizesCard

/-- THE TIED CARD OF 'tollbarlaw06.ChunkTrails'. -/
def chunkTrailsCard : Claim7 := { stood := { row := chunkTrailsRow, standIns := [], harness := (true, "169709a9d79f8930c1fec08b5762f099038d7db028a39d146c989d5364a2a7fa"), looks := false }, kinds := [], alts := [], laidByText := true, laidKinds := [.data, .data, .data, .data, .pinned], laidTests := true, laidLooks := .later }
def ChunkTrailsCardSaid : Prop := Claim7.holds Tryd.pinned (.plain (OpenSpec.ofChange chunkTrailsSpec)) chunkTrailsCard

/-- THE TIED CARD OF 'tollbarlaw06.ChunkBare'. -/
def chunkBareCard : Claim7 := { stood := { row := chunkBareRow, standIns := [], harness := (true, "169709a9d79f8930c1fec08b5762f099038d7db028a39d146c989d5364a2a7fa"), looks := false }, kinds := [], alts := [], laidByText := true, laidKinds := [.data, .data, .data, .data, .pinned], laidTests := true, laidLooks := .later }
def ChunkBareCardSaid : Prop := Claim7.holds Tryd.pinned (.plain (OpenSpec.ofChange chunkBareSpec)) chunkBareCard

/-- THE SECOND FORM's CARD OF 'tollbarlaw06.ChunkSizes'. -/
def chunkSizesUptoCard : Claim7 := { stood := { row := chunkSizesUptoRow, standIns := [], harness := (true, "169709a9d79f8930c1fec08b5762f099038d7db028a39d146c989d5364a2a7fa"), looks := false }, kinds := [], alts := [], laidByText := true, laidKinds := [.data, .data, .data, .data, .pinned], laidTests := true, laidLooks := .later }
def ChunkSizesUptoCardSaid : Prop := Claim7.holds Tryd.pinned (.plain (OpenSpec.upto chunkSizesSpec)) chunkSizesUptoCard

/-- THE SECOND FORM's CARD OF 'tollbarlaw06.ChunkTrails'. -/
def chunkTrailsUptoCard : Claim7 := { stood := { row := chunkTrailsUptoRow, standIns := [], harness := (true, "169709a9d79f8930c1fec08b5762f099038d7db028a39d146c989d5364a2a7fa"), looks := false }, kinds := [], alts := [], laidByText := true, laidKinds := [.data, .data, .data, .data, .pinned], laidTests := true, laidLooks := .later }
def ChunkTrailsUptoCardSaid : Prop := Claim7.holds Tryd.pinned (.plain (OpenSpec.upto chunkTrailsSpec)) chunkTrailsUptoCard

/-- THE SECOND FORM's CARD OF 'tollbarlaw06.ChunkBare'. -/
def chunkBareUptoCard : Claim7 := { stood := { row := chunkBareUptoRow, standIns := [], harness := (true, "169709a9d79f8930c1fec08b5762f099038d7db028a39d146c989d5364a2a7fa"), looks := false }, kinds := [], alts := [], laidByText := true, laidKinds := [.data, .data, .data, .data, .pinned], laidTests := true, laidLooks := .later }
def ChunkBareUptoCardSaid : Prop := Claim7.holds Tryd.pinned (.plain (OpenSpec.upto chunkBareSpec)) chunkBareUptoCard
end Rows
end Go.Proofs.YtbmpfjmnedlahacDoor
