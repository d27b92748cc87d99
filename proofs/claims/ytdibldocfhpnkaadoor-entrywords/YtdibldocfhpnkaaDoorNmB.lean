/- How great a number is that is read. -/
import Derived.Test.YtdibldocfhpnkaaDoorDecR
namespace Go.Proofs.YtdibldocfhpnkaaDoor
open Go.RowKit
set_option linter.unusedVariables false

theorem numI_bdT (s : ByteArray) : 0 ≤ numI 10 18 s ∧ numI 10 18 s < 1000000000000000000 := by
  unfold numI numV
  split
  · exact ⟨by decide, by decide⟩
  · rename_i h
    cases hv : vN 10 s.data.toList with
    | none => exact ⟨by decide, by decide⟩
    | some n =>
      have k := vN_take_lt 10 18 (by decide) s s.size (by omega) n (by rw [List.take_of_length_le (show s.data.toList.length ≤ s.size from Nat.le_refl _)]; exact hv)
      show 0 ≤ (n : Int) ∧ (n : Int) < _
      have e : (10 : Nat) ^ 18 = 1000000000000000000 := by decide
      omega
end Go.Proofs.YtdibldocfhpnkaaDoor
