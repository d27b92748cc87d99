/- What the contracts of lines lean on. -/
import Derived.Test.YthbjdbookiejeabGreatDoorLnG
namespace Go.Proofs.YthbjdbookiejeabGreatDoor
open Go.RowKit
set_option linter.unusedVariables false

/-- What the contracts lean on. -/
structure Lv (w : World) : Prop where
  max : MaxL w
  pow : PowT w
theorem Lv.below {w w' : World} (h : Lv w) (b : Below w.heap.size w w') : Lv w' := ⟨h.max.below b, h.pow.below b⟩

end Go.Proofs.YthbjdbookiejeabGreatDoor
