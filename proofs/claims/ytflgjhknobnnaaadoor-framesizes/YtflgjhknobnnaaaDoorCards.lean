/-
  DERIVED. GIVEN WITH THE SEED: THE CARDS: each row of YtflgjhknobnnaaaDoorRows.lean that lists a variable, with what it lists TIED to the program's text (the seventh form; the later family's looks); each row that meets fmt, with fmt's text TOLD by the authors' own Lean function (tested against real Go, not proved from fmt's source: count such statements apart). THE CARD IS WHAT COUNTS. Prove the row's statement (the work); the ties are given (YtflgjhknobnnaaaDoorTie.lean); close each card by the builder's one call (the guide's Derived/Test/ToyasCard.lean, 'card_holds'). Laid BY PROGRAM, IN A SANDBOX (cutbox-door.mjs). By AI agents, Wed Nov 11 2026. No macro, syntax, notation, axiom, sorry.
-/
import Derived.Test.YtflgjhknobnnaaaDoorRows
import GoSem.ClaimSeven
namespace Go.Proofs.YtflgjhknobnnaaaDoor
namespace Rows

/-- THE TIED CARD OF 'tollbarlaw07.FrameRequests'. -/
def frameRequestsCard : Claim7 := { stood := { row := frameRequestsRow, standIns := [], harness := (true, "644cdc7709eb5cbd34487fcdeca6cc41794cd0ed869fbf780525ea113081ebd9"), looks := false }, kinds := [], alts := [], laidByText := true, laidKinds := [.data, .pinned], laidTests := true, laidLooks := .later }
def FrameRequestsCardSaid : Prop := Claim7.holds Tryd.pinned (.plain (OpenSpec.ofChange frameRequestsSpec)) frameRequestsCard

/-- THE TIED CARD OF 'tollbarlaw07.FrameResponses'. -/
def frameResponsesCard : Claim7 := { stood := { row := frameResponsesRow, standIns := [], harness := (true, "644cdc7709eb5cbd34487fcdeca6cc41794cd0ed869fbf780525ea113081ebd9"), looks := false }, kinds := [], alts := [], laidByText := true, laidKinds := [.data, .pinned], laidTests := true, laidLooks := .later }
def FrameResponsesCardSaid : Prop := Claim7.holds Tryd.pinned (.plain (OpenSpec.ofChange frameResponsesSpec)) frameResponsesCard

/-- THE TIED CARD OF 'tollbarlaw07.FrameBoth'. -/
def frameBothCard : Claim7 := { stood := { row := frameBothRow, standIns := [], harness := (true, "644cdc7709eb5cbd34487fcdeca6cc41794cd0ed869fbf780525ea113081ebd9"), looks := false }, kinds := [], alts := [], laidByText := true, laidKinds := [.data, .pinned], laidTests := true, laidLooks := .later }
def FrameBothCardSaid : Prop := Claim7.holds Tryd.pinned (.plain (OpenSpec.ofChange frameBothSpec)) frameBothCard

/-- THE TIED CARD OF 'tollbarlaw07.FrameNone'. -/
def frameNoneCard : Claim7 := { stood := { row := frameNoneRow, standIns := [], harness := (true, "644cdc7709eb5cbd34487fcdeca6cc41794cd0ed869fbf780525ea113081ebd9"), looks := false }, kinds := [], alts := [], laidByText := true, laidKinds := [.data, .pinned], laidTests := true, laidLooks := .later }
def FrameNoneCardSaid : Prop := Claim7.holds Tryd.pinned (.plain (OpenSpec.ofChange frameNoneSpec)) frameNoneCard

/-- THE TIED CARD OF 'tollbarlaw07.FrameSizes'. -/
def frameSizesCard : Claim7 := { stood := { row := frameSizesRow, standIns := [], harness := (true, "644cdc7709eb5cbd34487fcdeca6cc41794cd0ed869fbf780525ea113081ebd9"), looks := false }, kinds := [], alts := [], laidByText := true, laidKinds := [.data, .pinned], laidTests := true, laidLooks := .later }
def FrameSizesCardSaid : Prop := Claim7.holds Tryd.pinned (.plain (OpenSpec.ofChange frameSizesSpec)) frameSizesCard

/-- THE SECOND FORM's CARD OF 'tollbarlaw07.FrameRequests'. -/
def frameRequestsUptoCard : Claim7 := { stood := { row := frameRequestsUptoRow, standIns := [], harness := (true, "644cdc7709eb5cbd34487fcdeca6cc41794cd0ed869fbf780525ea113081ebd9"), looks := false }, kinds := [], alts := [], laidByText := true, laidKinds := [.data, .pinned], laidTests := true, laidLooks := .later }
def FrameRequestsUptoCardSaid : Prop := Claim7.holds Tryd.pinned (.plain (OpenSpec.upto frameRequestsSpec)) frameRequestsUptoCard

/-- THE SECOND FORM's CARD OF 'tollbarlaw07.FrameResponses'. -/
def frameResponsesUptoCard : Claim7 := { stood := { row := frameResponsesUptoRow, standIns := [], harness := (true, "644cdc7709eb5cbd34487fcdeca6cc41794cd0ed869fbf780525ea113081ebd9"), looks := false }, kinds := [], alts := [], laidByText := true, laidKinds := [.data, .pinned], laidTests := true, laidLooks := .later }
def FrameResponsesUptoCardSaid : Prop := Claim7.holds Tryd.pinned (.plain (OpenSpec.upto frameResponsesSpec)) frameResponsesUptoCard

/-- THE SECOND FORM's CARD OF 'tollbarlaw07.FrameBoth'. -/
def frameBothUptoCard : Claim7 := { stood := { row := frameBothUptoRow, standIns := [], harness := (true, "644cdc7709eb5cbd34487fcdeca6cc41794cd0ed869fbf780525ea113081ebd9"), looks := false }, kinds := [], alts := [], laidByText := true, laidKinds := [.data, .pinned], laidTests := true, laidLooks := .later }
def FrameBothUptoCardSaid : Prop := Claim7.holds Tryd.pinned (.plain (OpenSpec.upto frameBothSpec)) frameBothUptoCard

/-- THE SECOND FORM's CARD OF 'tollbarlaw07.FrameNone'. -/
def frameNoneUptoCard : Claim7 := { stood := { row := frameNoneUptoRow, standIns := [], harness := (true, "644cdc7709eb5cbd34487fcdeca6cc41794cd0ed869fbf780525ea113081ebd9"), looks := false }, kinds := [], alts := [], laidByText := true, laidKinds := [.data, .pinned], laidTests := true, laidLooks := .later }
def FrameNoneUptoCardSaid : Prop := Claim7.holds Tryd.pinned (.plain (OpenSpec.upto frameNoneSpec)) frameNoneUptoCard

/-- THE SECOND FORM's CARD OF 'tollbarlaw07.FrameSizes'. -/
def frameSizesUptoCard : Claim7 := { stood := { row := frameSizesUptoRow, standIns := [], harness := (true, "644cdc7709eb5cbd34487fcdeca6cc41794cd0ed869fbf780525ea113081ebd9"), looks := false }, kinds := [], alts := [], laidByText := true, laidKinds := [.data, .pinned], laidTests := true, laidLooks := .later }
def FrameSizesUptoCardSaid : Prop := Claim7.holds Tryd.pinned (.plain (OpenSpec.upto frameSizesSpec)) frameSizesUptoCard
end Rows
end Go.Proofs.YtflgjhknobnnaaaDoor
