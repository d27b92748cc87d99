/- The reference's Status. -/
import Derived.Test.YthbjdbookiejeacGreatDoorLrL
import Derived.Test.YthbjdbookiejeacGreatDoorLrS
import Derived.Test.YthbjdbookiejeacGreatDoorLrM
namespace Go.Proofs.YthbjdbookiejeacGreatDoor
open Go.RowKit
set_option linter.unusedVariables false

theorem rstatus_any (s : ByteArray) (w : World) (hs : s.size ≤ maxLen) : Calls Tryz.prog 7 #[.string s] w fun e w' => e = .returned (.tuple #[respV (refS s), .bool (refS s).ok]) ∧ Below w.heap.size w w' := by
  by_cases hG : (¬ s.size < 12 ∧ at8 s 8 = 32 ∧ (rverL (s.extract 0 8).data.toList).2.2 = true ∧ (rverL (s.extract 0 8).data.toList).1 = 1 ∧ ¬ 1 < (rverL (s.extract 0 8).data.toList).2.1 ∧ spanP 48 57 (at8 s 9) = true ∧ spanP 48 57 (at8 s 10) = true ∧ spanP 48 57 (at8 s 11) = true)
  · obtain ⟨h12, h8, v3, v1, v2, h9, h10, h11⟩ := hG
    have hv : rverL (s.extract 0 8).data.toList = (1, (rverL (s.extract 0 8).data.toList).2.1, true) := by rw [← v1, ← v3]
    by_cases hz : 12 < s.size
    · exact rstat_long s _ w hs h12 h8 hv v2 h9 h10 h11 hz
    · exact rstat_short s _ w hs h12 h8 hv v2 h9 h10 h11 hz
  · exact rstat_bad s w hs hG
end Go.Proofs.YthbjdbookiejeacGreatDoor
