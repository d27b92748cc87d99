/-
  DERIVED. GIVEN WITH THE SEED: THE CARDS: each row of YthbjdbookiejeabGreatDoorRows.lean that lists a variable, with what it lists TIED to the program's text (the seventh form; the later family's looks); each row that meets fmt, with fmt's text TOLD by the authors' own Lean function (tested against real Go, not proved from fmt's source: count such statements apart). THE CARD IS WHAT COUNTS. Prove the row's statement (the work); the ties are given (YthbjdbookiejeabGreatDoorTie.lean); close each card by the builder's one call (the guide's Derived/Test/ToyasCard.lean, 'card_holds'). Laid BY PROGRAM, IN A SANDBOX (cutbox-door.mjs). By AI agents, Wed Nov 11 2026. No macro, syntax, notation, axiom, sorry.
-/
import Derived.Test.YthbjdbookiejeabGreatDoorRows
import GoSem.ClaimSeven
namespace Go.Proofs.YthbjdbookiejeabGreatDoor
namespace Rows

/-- THE TIED CARD OF 'tollbarlaw08.HttpHeads'. -/
def httpHeadsCard : Claim7 := { stood := { row := httpHeadsRow, standIns := [], harness := (true, "907891be44919975587bd7e1a8ad402975a41d8b9dbd1cb76af6af779318ee42"), looks := false }, kinds := [], alts := [], laidByText := true, laidKinds := [.data, .data, .data, .data, .pinned], laidTests := true, laidLooks := .later }
def HttpHeadsCardSaid : Prop := Claim7.holds Tryz.pinned (.plain (OpenSpec.ofChange httpHeadsSpec)) httpHeadsCard

/-- THE TIED CARD OF 'tollbarlaw08.HttpLimits'. -/
def httpLimitsCard : Claim7 := { stood := { row := httpLimitsRow, standIns := [], harness := (true, "907891be44919975587bd7e1a8ad402975a41d8b9dbd1cb76af6af779318ee42"), looks := false }, kinds := [], alts := [], laidByText := true, laidKinds := [.data, .data, .data, .data, .pinned], laidTests := true, laidLooks := .later }
def HttpLimitsCardSaid : Prop := Claim7.holds Tryz.pinned (.plain (OpenSpec.ofChange httpLimitsSpec)) httpLimitsCard

/-- THE TIED CARD OF 'tollbarlaw08.HttpEnds'. -/
def httpEndsCard : Claim7 := { stood := { row := httpEndsRow, standIns := [], harness := (true, "907891be44919975587bd7e1a8ad402975a41d8b9dbd1cb76af6af779318ee42"), looks := false }, kinds := [], alts := [], laidByText := true, laidKinds := [.data, .data, .data, .data, .pinned], laidTests := true, laidLooks := .later }
def HttpEndsCardSaid : Prop := Claim7.holds Tryz.pinned (.plain (OpenSpec.ofChange httpEndsSpec)) httpEndsCard

/-- THE TIED CARD OF 'tollbarlaw08.HttpHosts'. -/
def httpHostsCard : Claim7 := { stood := { row := httpHostsRow, standIns := [], harness := (true, "907891be44919975587bd7e1a8ad402975a41d8b9dbd1cb76af6af779318ee42"), looks := false }, kinds := [], alts := [], laidByText := true, laidKinds := [.data, .data, .data, .data, .pinned], laidTests := true, laidLooks := .later }
def HttpHostsCardSaid : Prop := Claim7.holds Tryz.pinned (.plain (OpenSpec.ofChange httpHostsSpec)) httpHostsCard

/-- THE TIED CARD OF 'tollbartop.WholeRequests'. -/
def wholeRequestsCard : Claim7 := { stood := { row := wholeRequestsRow, standIns := [], harness := (true, "907891be44919975587bd7e1a8ad402975a41d8b9dbd1cb76af6af779318ee42"), looks := false }, kinds := [], alts := [], laidByText := true, laidKinds := [.data, .data, .data, .data, .pinned], laidTests := true, laidLooks := .later }
def WholeRequestsCardSaid : Prop := Claim7.holds Tryz.pinned (.plain (OpenSpec.ofChange wholeRequestsSpec)) wholeRequestsCard

/-- THE TIED CARD OF 'tollbarlaw05.LineRequests'. -/
def lineRequestsCard : Claim7 := { stood := { row := lineRequestsRow, standIns := [], harness := (true, "907891be44919975587bd7e1a8ad402975a41d8b9dbd1cb76af6af779318ee42"), looks := false }, kinds := [], alts := [], laidByText := true, laidKinds := [.data, .data, .data, .data, .pinned], laidTests := true, laidLooks := .later }
def LineRequestsCardSaid : Prop := Claim7.holds Tryz.pinned (.plain (OpenSpec.ofChange lineRequestsSpec)) lineRequestsCard

/-- THE SECOND FORM's CARD OF 'tollbarlaw08.HttpHeads'. -/
def httpHeadsUptoCard : Claim7 := { stood := { row := httpHeadsUptoRow, standIns := [], harness := (true, "907891be44919975587bd7e1a8ad402975a41d8b9dbd1cb76af6af779318ee42"), looks := false }, kinds := [], alts := [], laidByText := true, laidKinds := [.data, .data, .data, .data, .pinned], laidTests := true, laidLooks := .later }
def HttpHeadsUptoCardSaid : Prop := Claim7.holds Tryz.pinned (.plain (OpenSpec.upto httpHeadsSpec)) httpHeadsUptoCard

/-- THE SECOND FORM's CARD OF 'tollbarlaw08.HttpLimits'. -/
def httpLimitsUptoCard : Claim7 := { stood := { row := httpLimitsUptoRow, standIns := [], harness := (true, "907891be44919975587bd7e1a8ad402975a41d8b9dbd1cb76af6af779318ee42"), looks := false }, kinds := [], alts := [], laidByText := true, laidKinds := [.data, .data, .data, .data, .pinned], laidTests := true, laidLooks := .later }
def HttpLimitsUptoCardSaid : Prop := Claim7.holds Tryz.pinned (.plain (OpenSpec.upto httpLimitsSpec)) httpLimitsUptoCard

/-- THE SECOND FORM's CARD OF 'tollbarlaw08.HttpEnds'. -/
def httpEndsUptoCard : Claim7 := { stood := { row := httpEndsUptoRow, standIns := [], harness := (true, "907891be44919975587bd7e1a8ad402975a41d8b9dbd1cb76af6af779318ee42"), looks := false }, kinds := [], alts := [], laidByText := true, laidKinds := [.data, .data, .data, .data, .pinned], laidTests := true, laidLooks := .later }
def HttpEndsUptoCardSaid : Prop := Claim7.holds Tryz.pinned (.plain (OpenSpec.upto httpEndsSpec)) httpEndsUptoCard

/-- THE SECOND FORM's CARD OF 'tollbarlaw08.HttpHosts'. -/
def httpHostsUptoCard : Claim7 := { stood := { row := httpHostsUptoRow, standIns := [], harness := (true, "907891be44919975587bd7e1a8ad402975a41d8b9dbd1cb76af6af779318ee42"), looks := false }, kinds := [], alts := [], laidByText := true, laidKinds := [.data, .data, .data, .data, .pinned], laidTests := true, laidLooks := .later }
def HttpHostsUptoCardSaid : Prop := Claim7.holds Tryz.pinned (.plain (OpenSpec.upto httpHostsSpec)) httpHostsUptoCard

/-- THE SECOND FORM's CARD OF 'tollbartop.WholeRequests'. -/
def wholeRequestsUptoCard : Claim7 := { stood := { row := wholeRequestsUptoRow, standIns := [], harness := (true, "907891be44919975587bd7e1a8ad402975a41d8b9dbd1cb76af6af779318ee42"), looks := false }, kinds := [], alts := [], laidByText := true, laidKinds := [.data, .data, .data, .data, .pinned], laidTests := true, laidLooks := .later }
def WholeRequestsUptoCardSaid : Prop := Claim7.holds Tryz.pinned (.plain (OpenSpec.upto wholeRequestsSpec)) wholeRequestsUptoCard

/-- THE SECOND FORM's CARD OF 'tollbarlaw05.LineRequests'. -/
def lineRequestsUptoCard : Claim7 := { stood := { row := lineRequestsUptoRow, standIns := [], harness := (true, "907891be44919975587bd7e1a8ad402975a41d8b9dbd1cb76af6af779318ee42"), looks := false }, kinds := [], alts := [], laidByText := true, laidKinds := [.data, .data, .data, .data, .pinned], laidTests := true, laidLooks := .later }
def LineRequestsUptoCardSaid : Prop := Claim7.holds Tryz.pinned (.plain (OpenSpec.upto lineRequestsSpec)) lineRequestsUptoCard
end Rows
end Go.Proofs.YthbjdbookiejeabGreatDoor
