/- Where a line's colon stands. -/
import Derived.Test.YtflgjhknobnnaabDoorFldA
import Derived.Test.YtflgjhknobnnaabDoorRefA
namespace Go.Proofs.YtflgjhknobnnaabDoor
open Go.RowKit
set_option linter.unusedVariables false

theorem index_at : ∀ (l : List UInt8) (k : Nat), (∀ b ∈ l.take k, b ≠ 58) → l[k]? = some 58 → Lib.index l [58] = k
  | [], k, _, h => by simp at h
  | b :: l, 0, _, h => by
    have : b = 58 := by simpa using h
    subst this
    simp [Lib.index, List.isPrefixOf]
  | b :: l, k + 1, hn, h => by
    have hb : b ≠ 58 := hn b (by simp)
    have ih := index_at l k (fun c hc => hn c (by rw [List.take_succ_cons]; exact .tail _ hc)) (by simpa using h)
    have hp : ([58] : List UInt8).isPrefixOf (b :: l) = false := by simp [List.isPrefixOf, Ne.symm hb]
    rw [Lib.index, hp, ih, if_neg (by decide), if_neg (by simp)]
    omega
theorem index_no : ∀ (l : List UInt8), (∀ b ∈ l, b ≠ 58) → Lib.index l [58] = -1
  | [], _ => by simp [Lib.index]
  | b :: l, hn => by
    have hb : b ≠ 58 := hn b (.head _)
    have ih := index_no l (fun c hc => hn c (.tail _ hc))
    have hp : ([58] : List UInt8).isPrefixOf (b :: l) = false := by simp [List.isPrefixOf, Ne.symm hb]
    rw [Lib.index, hp, ih]
    simp
theorem prs_no (s : ByteArray) (h : ∀ b ∈ s.data.toList, b ≠ 58) : prs s = (⟨#[]⟩, ⟨#[]⟩, 20) := by
  unfold prs Lib.cut
  rw [index_no _ h]
  simp
theorem prs_at (s : ByteArray) (k : Nat) (hk : k < s.size) (h : ∀ b ∈ s.data.toList.take k, b ≠ 58) (hb : s[k] = 58) :
    prs s = if okF (s.extract 0 k) (trimT (s.extract (k + 1) s.size)) then (s.extract 0 k, trimT (s.extract (k + 1) s.size), 0) else (⟨#[]⟩, ⟨#[]⟩, 20) := by
  have hk' : k < s.data.toList.length := hk
  have hi := index_at s.data.toList k h (by rw [List.getElem?_eq_getElem hk']; exact congrArg some hb)
  have e1 : (⟨(s.data.toList.take k).toArray⟩ : ByteArray) = s.extract 0 k := bytes_eq (by rw [ext_data]; simp)
  have e2 : (⟨(s.data.toList.drop (k + 1)).toArray⟩ : ByteArray) = s.extract (k + 1) s.size := bytes_eq (by rw [ext_data, List.take_of_length_le (show s.data.toList.length ≤ s.size from Nat.le_refl _)])
  have hc : Lib.cut s.data.toList [58] = (s.data.toList.take k, s.data.toList.drop (k + 1), true) := by
    unfold Lib.cut
    rw [hi, if_pos (by omega)]
    rfl
  unfold prs
  rw [hc]
  simp only [Bool.true_and, e1, e2]

end Go.Proofs.YtflgjhknobnnaabDoor
