/-
  DERIVED. GIVEN WITH THE SEED: THE CARDS: each row of YtemmmdhmkegaaaaGreatDoorRows.lean that lists a variable, with what it lists TIED to the program's text (the seventh form; the later family's looks); each row that meets fmt, with fmt's text TOLD by the authors' own Lean function (tested against real Go, not proved from fmt's source: count such statements apart). THE CARD IS WHAT COUNTS. Prove the row's statement (the work); the ties are given (YtemmmdhmkegaaaaGreatDoorTie.lean); close each card by the builder's one call (the guide's Derived/Test/ToyasCard.lean, 'card_holds'). Laid BY PROGRAM, IN A SANDBOX (cutbox-door.mjs). By AI agents, Wed Nov 11 2026. No macro, syntax, notation, axiom, sorry.
-/
import Derived.Test.YtemmmdhmkegaaaaGreatDoorRows
import GoSem.ClaimSeven
namespace Go.Proofs.YtemmmdhmkegaaaaGreatDoor
namespace Rows

/-- THE TIED CARD OF 'tollbarlaw18.ConnPlays'. -/
def connPlaysCard : Claim7 := { stood := { row := connPlaysRow, standIns := [], harness := (true, "f826e83999bde9cc25b0d7faef4255db2213774be1c5256d6b7098167e40967e"), looks := false }, kinds := [], alts := [], laidByText := true, laidKinds := [.data, .pinned], laidTests := true, laidLooks := .later }
def ConnPlaysCardSaid : Prop := Claim7.holds Tryz.pinned (.plain (OpenSpec.ofChange connPlaysSpec)) connPlaysCard

/-- THE TIED CARD OF 'tollbarlaw18.ConnPieces'. -/
def connPiecesCard : Claim7 := { stood := { row := connPiecesRow, standIns := [], harness := (true, "f826e83999bde9cc25b0d7faef4255db2213774be1c5256d6b7098167e40967e"), looks := false }, kinds := [], alts := [], laidByText := true, laidKinds := [.data, .pinned], laidTests := true, laidLooks := .later }
def ConnPiecesCardSaid : Prop := Claim7.holds Tryz.pinned (.plain (OpenSpec.ofChange connPiecesSpec)) connPiecesCard

/-- THE TIED CARD OF 'tollbarlaw18.ConnWrites'. -/
def connWritesCard : Claim7 := { stood := { row := connWritesRow, standIns := [], harness := (true, "f826e83999bde9cc25b0d7faef4255db2213774be1c5256d6b7098167e40967e"), looks := false }, kinds := [], alts := [], laidByText := true, laidKinds := [.data, .pinned], laidTests := true, laidLooks := .later }
def ConnWritesCardSaid : Prop := Claim7.holds Tryz.pinned (.plain (OpenSpec.ofChange connWritesSpec)) connWritesCard

/-- THE TIED CARD OF 'tollbarlaw18.ConnWaits'. -/
def connWaitsCard : Claim7 := { stood := { row := connWaitsRow, standIns := [], harness := (true, "f826e83999bde9cc25b0d7faef4255db2213774be1c5256d6b7098167e40967e"), looks := false }, kinds := [], alts := [], laidByText := true, laidKinds := [.data, .pinned], laidTests := true, laidLooks := .later }
def ConnWaitsCardSaid : Prop := Claim7.holds Tryz.pinned (.plain (OpenSpec.ofChange connWaitsSpec)) connWaitsCard

/-- THE TIED CARD OF 'tollbarlaw18.ConnCloses'. -/
def connClosesCard : Claim7 := { stood := { row := connClosesRow, standIns := [], harness := (true, "f826e83999bde9cc25b0d7faef4255db2213774be1c5256d6b7098167e40967e"), looks := false }, kinds := [], alts := [], laidByText := true, laidKinds := [.data, .pinned], laidTests := true, laidLooks := .later }
def ConnClosesCardSaid : Prop := Claim7.holds Tryz.pinned (.plain (OpenSpec.ofChange connClosesSpec)) connClosesCard

/-- THE TIED CARD OF 'tollbarlaw18.ConnFull'. -/
def connFullCard : Claim7 := { stood := { row := connFullRow, standIns := [], harness := (true, "f826e83999bde9cc25b0d7faef4255db2213774be1c5256d6b7098167e40967e"), looks := false }, kinds := [], alts := [], laidByText := true, laidKinds := [.data, .pinned], laidTests := true, laidLooks := .later }
def ConnFullCardSaid : Prop := Claim7.holds Tryz.pinned (.plain (OpenSpec.ofChange connFullSpec)) connFullCard

/-- THE SECOND FORM's CARD OF 'tollbarlaw18.ConnPlays'. -/
def connPlaysUptoCard : Claim7 := { stood := { row := connPlaysUptoRow, standIns := [], harness := (true, "f826e83999bde9cc25b0d7faef4255db2213774be1c5256d6b7098167e40967e"), looks := false }, kinds := [], alts := [], laidByText := true, laidKinds := [.data, .pinned], laidTests := true, laidLooks := .later }
def ConnPlaysUptoCardSaid : Prop := Claim7.holds Tryz.pinned (.plain (OpenSpec.upto connPlaysSpec)) connPlaysUptoCard

/-- THE SECOND FORM's CARD OF 'tollbarlaw18.ConnPieces'. -/
def connPiecesUptoCard : Claim7 := { stood := { row := connPiecesUptoRow, standIns := [], harness := (true, "f826e83999bde9cc25b0d7faef4255db2213774be1c5256d6b7098167e40967e"), looks := false }, kinds := [], alts := [], laidByText := true, laidKinds := [.data, .pinned], laidTests := true, laidLooks := .later }
def ConnPiecesUptoCardSaid : Prop := Claim7.holds Tryz.pinned (.plain (OpenSpec.upto connPiecesSpec)) connPiecesUptoCard

/-- THE SECOND FORM's CARD OF 'tollbarlaw18.ConnWrites'. -/
def connWritesUptoCard : Claim7 := { stood := { row := connWritesUptoRow, standIns := [], harness := (true, "f826e83999bde9cc25b0d7faef4255db2213774be1c5256d6b7098167e40967e"), looks := false }, kinds := [], alts := [], laidByText := true, laidKinds := [.data, .pinned], laidTests := true, laidLooks := .later }
def ConnWritesUptoCardSaid : Prop := Claim7.holds Tryz.pinned (.plain (OpenSpec.upto connWritesSpec)) connWritesUptoCard

/-- THE SECOND FORM's CARD OF 'tollbarlaw18.ConnWaits'. -/
def connWaitsUptoCard : Claim7 := { stood := { row := connWaitsUptoRow, standIns := [], harness := (true, "f826e83999bde9cc25b0d7faef4255db2213774be1c5256d6b7098167e40967e"), looks := false }, kinds := [], alts := [], laidByText := true, laidKinds := [.data, .pinned], laidTests := true, laidLooks := .later }
def ConnWaitsUptoCardSaid : Prop := Claim7.holds Tryz.pinned (.plain (OpenSpec.upto connWaitsSpec)) connWaitsUptoCard

/-- THE SECOND FORM's CARD OF 'tollbarlaw18.ConnCloses'. -/
def connClosesUptoCard : Claim7 := { stood := { row := connClosesUptoRow, standIns := [], harness := (true, "f826e83999bde9cc25b0d7faef4255db2213774be1c5256d6b7098167e40967e"), looks := false }, kinds := [], alts := [], laidByText := true, laidKinds := [.data, .pinned], laidTests := true, laidLooks := .later }
def ConnClosesUptoCardSaid : Prop := Claim7.holds Tryz.pinned (.plain (OpenSpec.upto connClosesSpec)) connClosesUptoCard

/-- THE SECOND FORM's CARD OF 'tollbarlaw18.ConnFull'. -/
def connFullUptoCard : Claim7 := { stood := { row := connFullUptoRow, standIns := [], harness := (true, "f826e83999bde9cc25b0d7faef4255db2213774be1c5256d6b7098167e40967e"), looks := false }, kinds := [], alts := [], laidByText := true, laidKinds := [.data, .pinned], laidTests := true, laidLooks := .later }
def ConnFullUptoCardSaid : Prop := Claim7.holds Tryz.pinned (.plain (OpenSpec.upto connFullSpec)) connFullUptoCard
end Rows
end Go.Proofs.YtemmmdhmkegaaaaGreatDoor
