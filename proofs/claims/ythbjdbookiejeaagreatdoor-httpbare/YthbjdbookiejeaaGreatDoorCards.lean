/-
  DERIVED. GIVEN WITH THE SEED: THE CARDS: each row of YthbjdbookiejeaaGreatDoorRows.lean that lists a variable, with what it lists TIED to the program's text (the seventh form; the later family's looks); each row that meets fmt, with fmt's text TOLD by the authors' own Lean function (tested against real Go, not proved from fmt's source: count such statements apart). THE CARD IS WHAT COUNTS. Prove the row's statement (the work); the ties are given (YthbjdbookiejeaaGreatDoorTie.lean); close each card by the builder's one call (the guide's Derived/Test/ToyasCard.lean, 'card_holds'). Laid BY PROGRAM, IN A SANDBOX (cutbox-door.mjs). By AI agents, Wed Nov 11 2026. No macro, syntax, notation, axiom, sorry.
-/
import Derived.Test.YthbjdbookiejeaaGreatDoorRows
import GoSem.ClaimSeven
namespace Go.Proofs.YthbjdbookiejeaaGreatDoor
namespace Rows

/-- THE TIED CARD OF 'tollbarlaw08.HttpRequests'. -/
def httpRequestsCard : Claim7 := { stood := { row := httpRequestsRow, standIns := [], harness := (true, "8a61d6e6bcaf75f7832433fc8e6a3cb9e8371613d3b91d7f7e8c34447d0924de"), looks := false }, kinds := [], alts := [], laidByText := true, laidKinds := [.data, .data, .data, .data, .pinned], laidTests := true, laidLooks := .later }
def HttpRequestsCardSaid : Prop := Claim7.holds Tryz.pinned (.plain (OpenSpec.ofChange httpRequestsSpec)) httpRequestsCard

/-- THE TIED CARD OF 'tollbarlaw08.HttpResponses'. -/
def httpResponsesCard : Claim7 := { stood := { row := httpResponsesRow, standIns := [], harness := (true, "8a61d6e6bcaf75f7832433fc8e6a3cb9e8371613d3b91d7f7e8c34447d0924de"), looks := false }, kinds := [], alts := [], laidByText := true, laidKinds := [.data, .data, .data, .data, .pinned], laidTests := true, laidLooks := .later }
def HttpResponsesCardSaid : Prop := Claim7.holds Tryz.pinned (.plain (OpenSpec.ofChange httpResponsesSpec)) httpResponsesCard

/-- THE TIED CARD OF 'tollbarlaw08.HttpGrows'. -/
def httpGrowsCard : Claim7 := { stood := { row := httpGrowsRow, standIns := [], harness := (true, "8a61d6e6bcaf75f7832433fc8e6a3cb9e8371613d3b91d7f7e8c34447d0924de"), looks := false }, kinds := [], alts := [], laidByText := true, laidKinds := [.data, .data, .data, .data, .pinned], laidTests := true, laidLooks := .later }
def HttpGrowsCardSaid : Prop := Claim7.holds Tryz.pinned (.plain (OpenSpec.ofChange httpGrowsSpec)) httpGrowsCard

/-- THE TIED CARD OF 'tollbarlaw08.HttpBack'. -/
def httpBackCard : Claim7 := { stood := { row := httpBackRow, standIns := [], harness := (true, "8a61d6e6bcaf75f7832433fc8e6a3cb9e8371613d3b91d7f7e8c34447d0924de"), looks := false }, kinds := [], alts := [], laidByText := true, laidKinds := [.data, .data, .data, .data, .pinned], laidTests := true, laidLooks := .later }
def HttpBackCardSaid : Prop := Claim7.holds Tryz.pinned (.plain (OpenSpec.ofChange httpBackSpec)) httpBackCard

/-- THE TIED CARD OF 'tollbarlaw08.HttpBare'. -/
def httpBareCard : Claim7 := { stood := { row := httpBareRow, standIns := [], harness := (true, "8a61d6e6bcaf75f7832433fc8e6a3cb9e8371613d3b91d7f7e8c34447d0924de"), looks := false }, kinds := [], alts := [], laidByText := true, laidKinds := [.data, .data, .data, .data, .pinned], laidTests := true, laidLooks := .later }
def HttpBareCardSaid : Prop := Claim7.holds Tryz.pinned (.plain (OpenSpec.ofChange httpBareSpec)) httpBareCard

/-- THE SECOND FORM's CARD OF 'tollbarlaw08.HttpRequests'. -/
def httpRequestsUptoCard : Claim7 := { stood := { row := httpRequestsUptoRow, standIns := [], harness := (true, "8a61d6e6bcaf75f7832433fc8e6a3cb9e8371613d3b91d7f7e8c34447d0924de"), looks := false }, kinds := [], alts := [], laidByText := true, laidKinds := [.data, .data, .data, .data, .pinned], laidTests := true, laidLooks := .later }
def HttpRequestsUptoCardSaid : Prop := Claim7.holds Tryz.pinned (.plain (OpenSpec.upto httpRequestsSpec)) httpRequestsUptoCard

/-- THE SECOND FORM's CARD OF 'tollbarlaw08.HttpResponses'. -/
def httpResponsesUptoCard : Claim7 := { stood := { row := httpResponsesUptoRow, standIns := [], harness := (true, "8a61d6e6bcaf75f7832433fc8e6a3cb9e8371613d3b91d7f7e8c34447d0924de"), looks := false }, kinds := [], alts := [], laidByText := true, laidKinds := [.data, .data, .data, .data, .pinned], laidTests := true, laidLooks := .later }
def HttpResponsesUptoCardSaid : Prop := Claim7.holds Tryz.pinned (.plain (OpenSpec.upto httpResponsesSpec)) httpResponsesUptoCard

/-- THE SECOND FORM's CARD OF 'tollbarlaw08.HttpGrows'. -/
def httpGrowsUptoCard : Claim7 := { stood := { row := httpGrowsUptoRow, standIns := [], harness := (true, "8a61d6e6bcaf75f7832433fc8e6a3cb9e8371613d3b91d7f7e8c34447d0924de"), looks := false }, kinds := [], alts := [], laidByText := true, laidKinds := [.data, .data, .data, .data, .pinned], laidTests := true, laidLooks := .later }
def HttpGrowsUptoCardSaid : Prop := Claim7.holds Tryz.pinned (.plain (OpenSpec.upto httpGrowsSpec)) httpGrowsUptoCard

/-- THE SECOND FORM's CARD OF 'tollbarlaw08.HttpBack'. -/
def httpBackUptoCard : Claim7 := { stood := { row := httpBackUptoRow, standIns := [], harness := (true, "8a61d6e6bcaf75f7832433fc8e6a3cb9e8371613d3b91d7f7e8c34447d0924de"), looks := false }, kinds := [], alts := [], laidByText := true, laidKinds := [.data, .data, .data, .data, .pinned], laidTests := true, laidLooks := .later }
def HttpBackUptoCardSaid : Prop := Claim7.holds Tryz.pinned (.plain (OpenSpec.upto httpBackSpec)) httpBackUptoCard

/-- THE SECOND FORM's CARD OF 'tollbarlaw08.HttpBare'. -/
def httpBareUptoCard : Claim7 := { stood := { row := httpBareUptoRow, standIns := [], harness := (true, "8a61d6e6bcaf75f7832433fc8e6a3cb9e8371613d3b91d7f7e8c34447d0924de"), looks := false }, kinds := [], alts := [], laidByText := true, laidKinds := [.data, .data, .data, .data, .pinned], laidTests := true, laidLooks := .later }
def HttpBareUptoCardSaid : Prop := Claim7.holds Tryz.pinned (.plain (OpenSpec.upto httpBareSpec)) httpBareUptoCard
end Rows
end Go.Proofs.YthbjdbookiejeaaGreatDoor
