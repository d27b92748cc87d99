/- What the reference's Status answers, plain. -/
import Derived.Test.YthbjdbookiejeacGreatDoorLrA
namespace Go.Proofs.YthbjdbookiejeacGreatDoor
open Go.RowKit
set_option linter.unusedVariables false

def noS : St := ⟨0, ⟨#[]⟩, 0, false⟩
def at8 (s : ByteArray) (i : Nat) : Int := ((s.data.toList.getD i 0).toNat : Int)
theorem at8_eq {s : ByteArray} {i : Nat} (h : i < s.size) : ((s[i]'h).toNat : Int) = at8 s i := by
  unfold at8
  rw [List.getD_eq_getElem?_getD, List.getElem?_eq_getElem (show i < s.data.toList.length from h)]
  rfl
def rsn (s : ByteArray) : ByteArray := if 12 < s.size then s.extract 13 s.size else ⟨#[]⟩
def codeR (s : ByteArray) : Int := 100 * (at8 s 9 - 48) + 10 * (at8 s 10 - 48) + (at8 s 11 - 48)
/-- What the reference's Status answers. -/
def refS (s : ByteArray) : St :=
  if s.size < 12 then noS else if ¬ at8 s 8 = 32 then noS else
  if (rverL (s.extract 0 8).data.toList).2.2 = false then noS else if ¬ (rverL (s.extract 0 8).data.toList).1 = 1 then noS else if 1 < (rverL (s.extract 0 8).data.toList).2.1 then noS else
  if spanP 48 57 (at8 s 9) = false then noS else if spanP 48 57 (at8 s 10) = false then noS else if spanP 48 57 (at8 s 11) = false then noS else
  if 12 < s.size ∧ ¬ at8 s 12 = 32 then noS else if codeR s < 100 then noS else if 599 < codeR s then noS else if allB valP (rsn s).data.toList = false then noS else if 100 < (rsn s).size then noS else
  ⟨codeR s, rsn s, (rverL (s.extract 0 8).data.toList).2.1, true⟩
theorem span_of {c : Int} (h : spanP 48 57 c = true) : 48 ≤ c ∧ c ≤ 57 := by unfold spanP at h; simpa using h
end Go.Proofs.YthbjdbookiejeacGreatDoor
