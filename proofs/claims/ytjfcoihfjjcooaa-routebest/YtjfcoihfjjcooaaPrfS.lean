/- strings.HasPrefix. -/
import Derived.Test.YtjfcoihfjjcooaaPrfA
namespace Go.Proofs.Ytjfcoihfjjcooaa
open Go.RowKit
set_option linter.unusedVariables false

theorem shasprefix_any (s p : ByteArray) (w : World) : Calls Try.prog 20 #[.string s, .string p] w fun e w' => e = .returned (.bool (hasP s p)) ∧ w' = w := by
  go_enter Try.func20, Try.ntmps20
  go_wp2_with fail
  refine (hasprefix_any s p _).mono ?_
  rintro e w1 ⟨rfl, rfl⟩
  go_wp2
  go_ret
  exact ⟨rfl, rfl⟩
end Go.Proofs.Ytjfcoihfjjcooaa
