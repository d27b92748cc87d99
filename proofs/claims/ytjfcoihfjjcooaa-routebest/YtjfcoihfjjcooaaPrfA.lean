/- Texts that begin with another. -/
import Derived.Test.YtjfcoihfjjcooaaBase
namespace Go.Proofs.Ytjfcoihfjjcooaa
open Go.RowKit
set_option linter.unusedVariables false

/-- Does a text begin with another? -/
def hasP (s p : ByteArray) : Bool := decide (p.size ≤ s.size) && ((s.extract 0 p.size).toList == p.toList)
def cutP (s p : ByteArray) : ByteArray := if hasP s p = true then s.extract p.size s.size else s

theorem hasprefix_any (s p : ByteArray) (w : World) : Calls Try.prog 27 #[.string s, .string p] w fun e w' => e = .returned (.bool (hasP s p)) ∧ w' = w := by
  unfold hasP
  go_enter Try.func27, Try.ntmps27
  go_wp2
  · rename_i h
    go_ret
    exact ⟨ret_b (by rw [decide_eq_true h, Bool.true_and]), rfl⟩
  · rename_i h
    go_ret
    exact ⟨ret_b (by rw [decide_eq_false h, Bool.false_and]), rfl⟩

end Go.Proofs.Ytjfcoihfjjcooaa
