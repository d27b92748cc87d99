/- A span of bytes. -/
import Derived.Test.YtklbcfbophjljaaDoorBase
namespace Go.Proofs.YtklbcfbophjljaaDoor
open Go.RowKit
set_option linter.unusedVariables false

def spanP (lo hi c : Int) : Bool := decide (lo ≤ c) && decide (c ≤ hi)
end Go.Proofs.YtklbcfbophjljaaDoor
