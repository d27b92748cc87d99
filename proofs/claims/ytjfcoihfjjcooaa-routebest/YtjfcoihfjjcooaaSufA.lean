/- Texts that end with another. -/
import Derived.Test.YtjfcoihfjjcooaaBase
namespace Go.Proofs.Ytjfcoihfjjcooaa
open Go.RowKit
set_option linter.unusedVariables false

def hasS (s p : ByteArray) : Bool := decide (p.size ≤ s.size) && ((s.extract (s.size - p.size) s.size).toList == p.toList)
def cutX (s p : ByteArray) : ByteArray := if hasS s p = true then s.extract 0 (s.size - p.size) else s
theorem hassuffix_any (s p : ByteArray) (w : World) (hs : s.size ≤ maxLen) : Calls Try.prog 26 #[.string s, .string p] w fun e w' => e = .returned (.bool (hasS s p)) ∧ w' = w := by
  unfold hasS
  unfold maxLen at hs
  have hlo : p.size ≤ s.size → ((s.size : Int) - (p.size : Int) + 9223372036854775808) % 18446744073709551616 - 9223372036854775808 = ((s.size - p.size : Nat) : Int) := fun _ => by omega
  go_enter Try.func26, Try.ntmps26
  go_wp2
  · have h : p.size ≤ s.size := by assumption
    go_ret
    exact ⟨ret_b (by rw [decide_eq_true h, Bool.true_and]), rfl⟩
  · have h : ¬ p.size ≤ s.size := by assumption
    go_ret
    exact ⟨ret_b (by rw [decide_eq_false h, Bool.false_and]), rfl⟩
end Go.Proofs.Ytjfcoihfjjcooaa
