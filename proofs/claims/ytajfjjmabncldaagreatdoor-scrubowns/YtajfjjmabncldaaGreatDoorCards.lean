/-
  DERIVED. GIVEN WITH THE SEED: THE CARDS: each row of YtajfjjmabncldaaGreatDoorRows.lean that lists a variable, with what it lists TIED to the program's text (the seventh form; the later family's looks); each row that meets fmt, with fmt's text TOLD by the authors' own Lean function (tested against real Go, not proved from fmt's source: count such statements apart). THE CARD IS WHAT COUNTS. Prove the row's statement (the work); the ties are given (YtajfjjmabncldaaGreatDoorTie.lean); close each card by the builder's one call (the guide's Derived/Test/ToyasCard.lean, 'card_holds'). Laid BY PROGRAM, IN A SANDBOX (cutbox-door.mjs). By AI agents, Wed Nov 11 2026. No macro, syntax, notation, axiom, sorry.
-/
import Derived.Test.YtajfjjmabncldaaGreatDoorRows
import GoSem.ClaimSeven
namespace Go.Proofs.YtajfjjmabncldaaGreatDoor
namespace Rows

/-- THE TIED CARD OF 'tollbarlaw12.ScrubRequests'. -/
def scrubRequestsCard : Claim7 := { stood := { row := scrubRequestsRow, standIns := [], harness := (true, "49542d59eb65adf377be7dddb7f50e7dfb3389a4a09bdd56d05ad093f4805f75"), looks := false }, kinds := [], alts := [], laidByText := true, laidKinds := [.data, .data, .data, .data, .pinned], laidTests := true, laidLooks := .later }
def ScrubRequestsCardSaid : Prop := Claim7.holds Tryz.pinned (.plain (OpenSpec.ofChange scrubRequestsSpec)) scrubRequestsCard

/-- THE TIED CARD OF 'tollbarlaw12.ScrubResponses'. -/
def scrubResponsesCard : Claim7 := { stood := { row := scrubResponsesRow, standIns := [], harness := (true, "49542d59eb65adf377be7dddb7f50e7dfb3389a4a09bdd56d05ad093f4805f75"), looks := false }, kinds := [], alts := [], laidByText := true, laidKinds := [.data, .data, .data, .data, .pinned], laidTests := true, laidLooks := .later }
def ScrubResponsesCardSaid : Prop := Claim7.holds Tryz.pinned (.plain (OpenSpec.ofChange scrubResponsesSpec)) scrubResponsesCard

/-- THE TIED CARD OF 'tollbarlaw12.ScrubClean'. -/
def scrubCleanCard : Claim7 := { stood := { row := scrubCleanRow, standIns := [], harness := (true, "49542d59eb65adf377be7dddb7f50e7dfb3389a4a09bdd56d05ad093f4805f75"), looks := false }, kinds := [], alts := [], laidByText := true, laidKinds := [.data, .data, .data, .data, .pinned], laidTests := true, laidLooks := .later }
def ScrubCleanCardSaid : Prop := Claim7.holds Tryz.pinned (.plain (OpenSpec.ofChange scrubCleanSpec)) scrubCleanCard

/-- THE TIED CARD OF 'tollbarlaw12.ScrubReads'. -/
def scrubReadsCard : Claim7 := { stood := { row := scrubReadsRow, standIns := [], harness := (true, "49542d59eb65adf377be7dddb7f50e7dfb3389a4a09bdd56d05ad093f4805f75"), looks := false }, kinds := [], alts := [], laidByText := true, laidKinds := [.data, .data, .data, .data, .pinned], laidTests := true, laidLooks := .later }
def ScrubReadsCardSaid : Prop := Claim7.holds Tryz.pinned (.plain (OpenSpec.ofChange scrubReadsSpec)) scrubReadsCard

/-- THE TIED CARD OF 'tollbarlaw12.ScrubAnswers'. -/
def scrubAnswersCard : Claim7 := { stood := { row := scrubAnswersRow, standIns := [], harness := (true, "49542d59eb65adf377be7dddb7f50e7dfb3389a4a09bdd56d05ad093f4805f75"), looks := false }, kinds := [], alts := [], laidByText := true, laidKinds := [.data, .data, .data, .data, .pinned], laidTests := true, laidLooks := .later }
def ScrubAnswersCardSaid : Prop := Claim7.holds Tryz.pinned (.plain (OpenSpec.ofChange scrubAnswersSpec)) scrubAnswersCard

/-- THE TIED CARD OF 'tollbarlaw12.ScrubOwns'. -/
def scrubOwnsCard : Claim7 := { stood := { row := scrubOwnsRow, standIns := [], harness := (true, "49542d59eb65adf377be7dddb7f50e7dfb3389a4a09bdd56d05ad093f4805f75"), looks := false }, kinds := [], alts := [], laidByText := true, laidKinds := [.data, .data, .data, .data, .pinned], laidTests := true, laidLooks := .later }
def ScrubOwnsCardSaid : Prop := Claim7.holds Tryz.pinned (.plain (OpenSpec.ofChange scrubOwnsSpec)) scrubOwnsCard

/-- THE SECOND FORM's CARD OF 'tollbarlaw12.ScrubRequests'. -/
def scrubRequestsUptoCard : Claim7 := { stood := { row := scrubRequestsUptoRow, standIns := [], harness := (true, "49542d59eb65adf377be7dddb7f50e7dfb3389a4a09bdd56d05ad093f4805f75"), looks := false }, kinds := [], alts := [], laidByText := true, laidKinds := [.data, .data, .data, .data, .pinned], laidTests := true, laidLooks := .later }
def ScrubRequestsUptoCardSaid : Prop := Claim7.holds Tryz.pinned (.plain (OpenSpec.upto scrubRequestsSpec)) scrubRequestsUptoCard

/-- THE SECOND FORM's CARD OF 'tollbarlaw12.ScrubResponses'. -/
def scrubResponsesUptoCard : Claim7 := { stood := { row := scrubResponsesUptoRow, standIns := [], harness := (true, "49542d59eb65adf377be7dddb7f50e7dfb3389a4a09bdd56d05ad093f4805f75"), looks := false }, kinds := [], alts := [], laidByText := true, laidKinds := [.data, .data, .data, .data, .pinned], laidTests := true, laidLooks := .later }
def ScrubResponsesUptoCardSaid : Prop := Claim7.holds Tryz.pinned (.plain (OpenSpec.upto scrubResponsesSpec)) scrubResponsesUptoCard

/-- THE SECOND FORM's CARD OF 'tollbarlaw12.ScrubClean'. -/
def scrubCleanUptoCard : Claim7 := { stood := { row := scrubCleanUptoRow, standIns := [], harness := (true, "49542d59eb65adf377be7dddb7f50e7dfb3389a4a09bdd56d05ad093f4805f75"), looks := false }, kinds := [], alts := [], laidByText := true, laidKinds := [.data, .data, .data, .data, .pinned], laidTests := true, laidLooks := .later }
def ScrubCleanUptoCardSaid : Prop := Claim7.holds Tryz.pinned (.plain (OpenSpec.upto scrubCleanSpec)) scrubCleanUptoCard

/-- THE SECOND FORM's CARD OF 'tollbarlaw12.ScrubReads'. -/
def scrubReadsUptoCard : Claim7 := { stood := { row := scrubReadsUptoRow, standIns := [], harness := (true, "49542d59eb65adf377be7dddb7f50e7dfb3389a4a09bdd56d05ad093f4805f75"), looks := false }, kinds := [], alts := [], laidByText := true, laidKinds := [.data, .data, .data, .data, .pinned], laidTests := true, laidLooks := .later }
def ScrubReadsUptoCardSaid : Prop := Claim7.holds Tryz.pinned (.plain (OpenSpec.upto scrubReadsSpec)) scrubReadsUptoCard

/-- THE SECOND FORM's CARD OF 'tollbarlaw12.ScrubAnswers'. -/
def scrubAnswersUptoCard : Claim7 := { stood := { row := scrubAnswersUptoRow, standIns := [], harness := (true, "49542d59eb65adf377be7dddb7f50e7dfb3389a4a09bdd56d05ad093f4805f75"), looks := false }, kinds := [], alts := [], laidByText := true, laidKinds := [.data, .data, .data, .data, .pinned], laidTests := true, laidLooks := .later }
def ScrubAnswersUptoCardSaid : Prop := Claim7.holds Tryz.pinned (.plain (OpenSpec.upto scrubAnswersSpec)) scrubAnswersUptoCard

/-- THE SECOND FORM's CARD OF 'tollbarlaw12.ScrubOwns'. -/
def scrubOwnsUptoCard : Claim7 := { stood := { row := scrubOwnsUptoRow, standIns := [], harness := (true, "49542d59eb65adf377be7dddb7f50e7dfb3389a4a09bdd56d05ad093f4805f75"), looks := false }, kinds := [], alts := [], laidByText := true, laidKinds := [.data, .data, .data, .data, .pinned], laidTests := true, laidLooks := .later }
def ScrubOwnsUptoCardSaid : Prop := Claim7.holds Tryz.pinned (.plain (OpenSpec.upto scrubOwnsSpec)) scrubOwnsUptoCard
end Rows
end Go.Proofs.YtajfjjmabncldaaGreatDoor
