/-
  DERIVED. GIVEN WITH THE SEED: THE CARDS: each row of YtpegjifimaijeaaDoorRows.lean that lists a variable, with what it lists TIED to the program's text (the seventh form; the later family's looks); each row that meets fmt, with fmt's text TOLD by the authors' own Lean function (tested against real Go, not proved from fmt's source: count such statements apart). THE CARD IS WHAT COUNTS. Prove the row's statement (the work); the ties are given (YtpegjifimaijeaaDoorTie.lean); close each card by the builder's one call (the guide's Derived/Test/ToyasCard.lean, 'card_holds'). Laid BY PROGRAM, IN A SANDBOX (cutbox-door.mjs). By AI agents, Wed Nov 11 2026. No macro, syntax, notation, axiom, sorry.
-/
import Derived.Test.YtpegjifimaijeaaDoorRows
import GoSem.ClaimSeven
namespace Go.Proofs.YtpegjifimaijeaaDoor
namespace Rows

/-- THE TIED CARD OF 'tollbarlaw13.EntryWrites'. -/
def entryWritesCard : Claim7 := { stood := { row := entryWritesRow, standIns := [], harness := (true, "0247283eac6811729bf6124951490a1ebb0d967b9a1fdc4f55e17fc34b858e1a"), looks := false }, kinds := [], alts := [], laidByText := true, laidKinds := [.data, .data, .data, .data, .data, .data, .pinned], laidTests := true, laidLooks := .later }
def EntryWritesCardSaid : Prop := Claim7.holds Tryd.pinned (.plain (OpenSpec.ofChange entryWritesSpec)) entryWritesCard

/-- THE TIED CARD OF 'tollbarlaw13.EntryReads'. -/
def entryReadsCard : Claim7 := { stood := { row := entryReadsRow, standIns := [], harness := (true, "0247283eac6811729bf6124951490a1ebb0d967b9a1fdc4f55e17fc34b858e1a"), looks := false }, kinds := [], alts := [], laidByText := true, laidKinds := [.data, .data, .data, .data, .data, .data, .pinned], laidTests := true, laidLooks := .later }
def EntryReadsCardSaid : Prop := Claim7.holds Tryd.pinned (.plain (OpenSpec.ofChange entryReadsSpec)) entryReadsCard

/-- THE TIED CARD OF 'tollbarlaw13.EntryWords'. -/
def entryWordsCard : Claim7 := { stood := { row := entryWordsRow, standIns := [], harness := (true, "0247283eac6811729bf6124951490a1ebb0d967b9a1fdc4f55e17fc34b858e1a"), looks := false }, kinds := [], alts := [], laidByText := true, laidKinds := [.data, .data, .data, .data, .data, .data, .pinned], laidTests := true, laidLooks := .later }
def EntryWordsCardSaid : Prop := Claim7.holds Tryd.pinned (.plain (OpenSpec.ofChange entryWordsSpec)) entryWordsCard

/-- THE SECOND FORM's CARD OF 'tollbarlaw13.EntryWrites'. -/
def entryWritesUptoCard : Claim7 := { stood := { row := entryWritesUptoRow, standIns := [], harness := (true, "0247283eac6811729bf6124951490a1ebb0d967b9a1fdc4f55e17fc34b858e1a"), looks := false }, kinds := [], alts := [], laidByText := true, laidKinds := [.data, .data, .data, .data, .data, .data, .pinned], laidTests := true, laidLooks := .later }
def EntryWritesUptoCardSaid : Prop := Claim7.holds Tryd.pinned (.plain (OpenSpec.upto entryWritesSpec)) entryWritesUptoCard

/-- THE SECOND FORM's CARD OF 'tollbarlaw13.EntryReads'. -/
def entryReadsUptoCard : Claim7 := { stood := { row := entryReadsUptoRow, standIns := [], harness := (true, "0247283eac6811729bf6124951490a1ebb0d967b9a1fdc4f55e17fc34b858e1a"), looks := false }, kinds := [], alts := [], laidByText := true, laidKinds := [.data, .data, .data, .data, .data, .data, .pinned], laidTests := true, laidLooks := .later }
def EntryReadsUptoCardSaid : Prop := Claim7.holds Tryd.pinned (.plain (OpenSpec.upto entryReadsSpec)) entryReadsUptoCard

/-- THE SECOND FORM's CARD OF 'tollbarlaw13.EntryWords'. -/
def entryWordsUptoCard : Claim7 := { stood := { row := entryWordsUptoRow, standIns := [], harness := (true, "0247283eac6811729bf6124951490a1ebb0d967b9a1fdc4f55e17fc34b858e1a"), looks := false }, kinds := [], alts := [], laidByText := true, laidKinds := [.data, .data, .data, .data, .data, .data, .pinned], laidTests := true, laidLooks := .later }
def EntryWordsUptoCardSaid : Prop := Claim7.holds Tryd.pinned (.plain (OpenSpec.upto entryWordsSpec)) entryWordsUptoCard
end Rows
end Go.Proofs.YtpegjifimaijeaaDoor
