/-
  DERIVED. GIVEN WITH THE SEED: THE CARDS: each row of YtflgjhknobnnaabDoorRows.lean that lists a variable, with what it lists TIED to the program's text (the seventh form; the later family's looks); each row that meets fmt, with fmt's text TOLD by the authors' own Lean function (tested against real Go, not proved from fmt's source: count such statements apart). THE CARD IS WHAT COUNTS. Prove the row's statement (the work); the ties are given (YtflgjhknobnnaabDoorTie.lean); close each card by the builder's one call (the guide's Derived/Test/ToyasCard.lean, 'card_holds'). Laid BY PROGRAM, IN A SANDBOX (cutbox-door.mjs). By AI agents, Wed Nov 11 2026. No macro, syntax, notation, axiom, sorry.
-/
import Derived.Test.YtflgjhknobnnaabDoorRows
import GoSem.ClaimSeven
namespace Go.Proofs.YtflgjhknobnnaabDoor
namespace Rows

/-- THE TIED CARD OF 'tollbarlaw04.FieldLooks'. -/
def fieldLooksCard : Claim7 := { stood := { row := fieldLooksRow, standIns := [], harness := (true, "f9b995f87fc27ba57f2c4253421632a6d94d881476770185658976bc312221f5"), looks := false }, kinds := [], alts := [], laidByText := true, laidKinds := [.data, .pinned], laidTests := true, laidLooks := .later }
def FieldLooksCardSaid : Prop := Claim7.holds Tryd.pinned (.plain (OpenSpec.ofChange fieldLooksSpec)) fieldLooksCard

/-- THE TIED CARD OF 'tollbarlaw04.FieldBack'. -/
def fieldBackCard : Claim7 := { stood := { row := fieldBackRow, standIns := [], harness := (true, "f9b995f87fc27ba57f2c4253421632a6d94d881476770185658976bc312221f5"), looks := false }, kinds := [], alts := [], laidByText := true, laidKinds := [.data, .pinned], laidTests := true, laidLooks := .later }
def FieldBackCardSaid : Prop := Claim7.holds Tryd.pinned (.plain (OpenSpec.ofChange fieldBackSpec)) fieldBackCard

/-- THE TIED CARD OF 'tollbarlaw04.FieldParts'. -/
def fieldPartsCard : Claim7 := { stood := { row := fieldPartsRow, standIns := [], harness := (true, "f9b995f87fc27ba57f2c4253421632a6d94d881476770185658976bc312221f5"), looks := false }, kinds := [], alts := [], laidByText := true, laidKinds := [.data, .pinned], laidTests := true, laidLooks := .later }
def FieldPartsCardSaid : Prop := Claim7.holds Tryd.pinned (.plain (OpenSpec.ofChange fieldPartsSpec)) fieldPartsCard

/-- THE TIED CARD OF 'tollbarlaw04.FieldSame'. -/
def fieldSameCard : Claim7 := { stood := { row := fieldSameRow, standIns := [], harness := (true, "f9b995f87fc27ba57f2c4253421632a6d94d881476770185658976bc312221f5"), looks := false }, kinds := [], alts := [], laidByText := true, laidKinds := [.data, .pinned], laidTests := true, laidLooks := .later }
def FieldSameCardSaid : Prop := Claim7.holds Tryd.pinned (.plain (OpenSpec.ofChange fieldSameSpec)) fieldSameCard

/-- THE TIED CARD OF 'tollbarlaw04.FieldJoins'. -/
def fieldJoinsCard : Claim7 := { stood := { row := fieldJoinsRow, standIns := [], harness := (true, "f9b995f87fc27ba57f2c4253421632a6d94d881476770185658976bc312221f5"), looks := false }, kinds := [], alts := [], laidByText := true, laidKinds := [.data, .pinned], laidTests := true, laidLooks := .later }
def FieldJoinsCardSaid : Prop := Claim7.holds Tryd.pinned (.plain (OpenSpec.ofChange fieldJoinsSpec)) fieldJoinsCard

/-- THE TIED CARD OF 'tollbarlaw04.FieldBounds'. -/
def fieldBoundsCard : Claim7 := { stood := { row := fieldBoundsRow, standIns := [], harness := (true, "f9b995f87fc27ba57f2c4253421632a6d94d881476770185658976bc312221f5"), looks := false }, kinds := [], alts := [], laidByText := true, laidKinds := [.data, .pinned], laidTests := true, laidLooks := .later }
def FieldBoundsCardSaid : Prop := Claim7.holds Tryd.pinned (.plain (OpenSpec.ofChange fieldBoundsSpec)) fieldBoundsCard

/-- THE SECOND FORM's CARD OF 'tollbarlaw04.FieldLooks'. -/
def fieldLooksUptoCard : Claim7 := { stood := { row := fieldLooksUptoRow, standIns := [], harness := (true, "f9b995f87fc27ba57f2c4253421632a6d94d881476770185658976bc312221f5"), looks := false }, kinds := [], alts := [], laidByText := true, laidKinds := [.data, .pinned], laidTests := true, laidLooks := .later }
def FieldLooksUptoCardSaid : Prop := Claim7.holds Tryd.pinned (.plain (OpenSpec.upto fieldLooksSpec)) fieldLooksUptoCard

/-- THE SECOND FORM's CARD OF 'tollbarlaw04.FieldBack'. -/
def fieldBackUptoCard : Claim7 := { stood := { row := fieldBackUptoRow, standIns := [], harness := (true, "f9b995f87fc27ba57f2c4253421632a6d94d881476770185658976bc312221f5"), looks := false }, kinds := [], alts := [], laidByText := true, laidKinds := [.data, .pinned], laidTests := true, laidLooks := .later }
def FieldBackUptoCardSaid : Prop := Claim7.holds Tryd.pinned (.plain (OpenSpec.upto fieldBackSpec)) fieldBackUptoCard

/-- THE SECOND FORM's CARD OF 'tollbarlaw04.FieldParts'. -/
def fieldPartsUptoCard : Claim7 := { stood := { row := fieldPartsUptoRow, standIns := [], harness := (true, "f9b995f87fc27ba57f2c4253421632a6d94d881476770185658976bc312221f5"), looks := false }, kinds := [], alts := [], laidByText := true, laidKinds := [.data, .pinned], laidTests := true, laidLooks := .later }
def FieldPartsUptoCardSaid : Prop := Claim7.holds Tryd.pinned (.plain (OpenSpec.upto fieldPartsSpec)) fieldPartsUptoCard

/-- THE SECOND FORM's CARD OF 'tollbarlaw04.FieldSame'. -/
def fieldSameUptoCard : Claim7 := { stood := { row := fieldSameUptoRow, standIns := [], harness := (true, "f9b995f87fc27ba57f2c4253421632a6d94d881476770185658976bc312221f5"), looks := false }, kinds := [], alts := [], laidByText := true, laidKinds := [.data, .pinned], laidTests := true, laidLooks := .later }
def FieldSameUptoCardSaid : Prop := Claim7.holds Tryd.pinned (.plain (OpenSpec.upto fieldSameSpec)) fieldSameUptoCard

/-- THE SECOND FORM's CARD OF 'tollbarlaw04.FieldJoins'. -/
def fieldJoinsUptoCard : Claim7 := { stood := { row := fieldJoinsUptoRow, standIns := [], harness := (true, "f9b995f87fc27ba57f2c4253421632a6d94d881476770185658976bc312221f5"), looks := false }, kinds := [], alts := [], laidByText := true, laidKinds := [.data, .pinned], laidTests := true, laidLooks := .later }
def FieldJoinsUptoCardSaid : Prop := Claim7.holds Tryd.pinned (.plain (OpenSpec.upto fieldJoinsSpec)) fieldJoinsUptoCard

/-- THE SECOND FORM's CARD OF 'tollbarlaw04.FieldBounds'. -/
def fieldBoundsUptoCard : Claim7 := { stood := { row := fieldBoundsUptoRow, standIns := [], harness := (true, "f9b995f87fc27ba57f2c4253421632a6d94d881476770185658976bc312221f5"), looks := false }, kinds := [], alts := [], laidByText := true, laidKinds := [.data, .pinned], laidTests := true, laidLooks := .later }
def FieldBoundsUptoCardSaid : Prop := Claim7.holds Tryd.pinned (.plain (OpenSpec.upto fieldBoundsSpec)) fieldBoundsUptoCard
end Rows
end Go.Proofs.YtflgjhknobnnaabDoor
