/- All bytes of a text. -/
import Derived.Test.YtdibldocfhpnkaaDoorBase
namespace Go.Proofs.YtdibldocfhpnkaaDoor
open Go.RowKit
set_option linter.unusedVariables false

/-- All bytes of a text. -/
def allB (p : Int → Bool) (l : List UInt8) : Bool := l.all fun b => p (b.toNat : Int)

theorem allB_snoc {p : Int → Bool} (s : ByteArray) (k : Nat) (h : k < s.size) (ha : allB p (s.data.toList.take k) = true) (hc : p (s[k].toNat : Int) = true) : allB p (s.data.toList.take (k + 1)) = true := by
  rw [take_snoc s k h]; unfold allB at *; rw [List.all_append, ha]; simp [hc]
theorem allB_false {p : Int → Bool} (s : ByteArray) (k : Nat) (h : k < s.size) (hc : p (s[k].toNat : Int) = false) : allB p s.data.toList = false := by
  unfold allB
  rw [List.all_eq_false]
  exact ⟨s[k], by rw [show s[k] = s.data.toList[k]'(by simpa using h) from rfl]; exact List.getElem_mem _, by simp [hc]⟩

end Go.Proofs.YtdibldocfhpnkaaDoor
