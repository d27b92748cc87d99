/- What the reference's reading of numbers answers of every text. -/
import Derived.Test.YtflgjhknobnnaaaDoorDig
namespace Go.Proofs.YtflgjhknobnnaaaDoor
open Go.RowKit
set_option linter.unusedVariables false

def isD (c : Int) : Bool := decide (48 ≤ c) && decide (c ≤ 57)
theorem rdigit_any (c : Int) (w : World) : Calls Tryd.prog 38 #[.int .u8 c] w fun e w' => e = .returned (.bool (isD c)) ∧ w' = w := by
  unfold isD
  by_cases a : 48 ≤ c
  · by_cases b : c ≤ 57
    · go_enter Tryd.func38, Tryd.ntmps38
      go_wp2
      go_ret
      exact ⟨ret_b (by simp [a, b]), rfl⟩
    · go_enter Tryd.func38, Tryd.ntmps38
      go_wp2
      go_ret
      exact ⟨ret_b (by simp [b]), rfl⟩
  · go_enter Tryd.func38, Tryd.ntmps38
    go_wp2
    go_ret
    exact ⟨ret_b (by simp; omega), rfl⟩

end Go.Proofs.YtflgjhknobnnaaaDoor
