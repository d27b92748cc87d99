/-
  DERIVED. GIVEN WITH THE SEED: THE CARDS: each row of YthbjdbookiejeacGreatDoorRows.lean that lists a variable, with what it lists TIED to the program's text (the seventh form; the later family's looks); each row that meets fmt, with fmt's text TOLD by the authors' own Lean function (tested against real Go, not proved from fmt's source: count such statements apart). THE CARD IS WHAT COUNTS. Prove the row's statement (the work); the ties are given (YthbjdbookiejeacGreatDoorTie.lean); close each card by the builder's one call (the guide's Derived/Test/ToyasCard.lean, 'card_holds'). Laid BY PROGRAM, IN A SANDBOX (cutbox-door.mjs). By AI agents, Wed Nov 11 2026. No macro, syntax, notation, axiom, sorry.
-/
import Derived.Test.YthbjdbookiejeacGreatDoorRows
import GoSem.ClaimSeven
namespace Go.Proofs.YthbjdbookiejeacGreatDoor
namespace Rows

/-- THE TIED CARD OF 'tollbarlaw05.LineStatuses'. -/
def lineStatusesCard : Claim7 := { stood := { row := lineStatusesRow, standIns := [], harness := (true, "0645fb576ba5d4737886202592ff58a798b3e4b447aa60c27b862db54fcb26c3"), looks := false }, kinds := [], alts := [], laidByText := true, laidKinds := [.data, .data, .data, .data, .pinned], laidTests := true, laidLooks := .later }
def LineStatusesCardSaid : Prop := Claim7.holds Tryz.pinned (.plain (OpenSpec.ofChange lineStatusesSpec)) lineStatusesCard

/-- THE TIED CARD OF 'tollbarlaw05.LineHosts'. -/
def lineHostsCard : Claim7 := { stood := { row := lineHostsRow, standIns := [], harness := (true, "0645fb576ba5d4737886202592ff58a798b3e4b447aa60c27b862db54fcb26c3"), looks := false }, kinds := [], alts := [], laidByText := true, laidKinds := [.data, .data, .data, .data, .pinned], laidTests := true, laidLooks := .later }
def LineHostsCardSaid : Prop := Claim7.holds Tryz.pinned (.plain (OpenSpec.ofChange lineHostsSpec)) lineHostsCard

/-- THE SECOND FORM's CARD OF 'tollbarlaw05.LineStatuses'. -/
def lineStatusesUptoCard : Claim7 := { stood := { row := lineStatusesUptoRow, standIns := [], harness := (true, "0645fb576ba5d4737886202592ff58a798b3e4b447aa60c27b862db54fcb26c3"), looks := false }, kinds := [], alts := [], laidByText := true, laidKinds := [.data, .data, .data, .data, .pinned], laidTests := true, laidLooks := .later }
def LineStatusesUptoCardSaid : Prop := Claim7.holds Tryz.pinned (.plain (OpenSpec.upto lineStatusesSpec)) lineStatusesUptoCard

/-- THE SECOND FORM's CARD OF 'tollbarlaw05.LineHosts'. -/
def lineHostsUptoCard : Claim7 := { stood := { row := lineHostsUptoRow, standIns := [], harness := (true, "0645fb576ba5d4737886202592ff58a798b3e4b447aa60c27b862db54fcb26c3"), looks := false }, kinds := [], alts := [], laidByText := true, laidKinds := [.data, .data, .data, .data, .pinned], laidTests := true, laidLooks := .later }
def LineHostsUptoCardSaid : Prop := Claim7.holds Tryz.pinned (.plain (OpenSpec.upto lineHostsSpec)) lineHostsUptoCard
end Rows
end Go.Proofs.YthbjdbookiejeacGreatDoor
