/- A span of bytes. -/
import Derived.Test.YtdibldocfhpnkaaDoorBase
namespace Go.Proofs.YtdibldocfhpnkaaDoor
open Go.RowKit
set_option linter.unusedVariables false

def spanP (lo hi c : Int) : Bool := decide (lo ≤ c) && decide (c ≤ hi)
end Go.Proofs.YtdibldocfhpnkaaDoor
