/- A right field's line, read again. -/
import Derived.Test.YtflgjhknobnnaabDoorFldI
import Derived.Test.YtflgjhknobnnaabDoorFldL
namespace Go.Proofs.YtflgjhknobnnaabDoor
open Go.RowKit
set_option linter.unusedVariables false

theorem tok_no (b : UInt8) (h : tokP (b.toNat : Int) = true) : b ≠ 58 ∧ b ≠ 13 ∧ b ≠ 10 := by
  refine ⟨?_, ?_, ?_⟩ <;> (rintro rfl; revert h; decide +kernel)
theorem val_no (b : UInt8) (h : valP (b.toNat : Int) = true) : b ≠ 13 ∧ b ≠ 10 := by
  refine ⟨?_, ?_⟩ <;> (rintro rfl; revert h; decide +kernel)
/-- A line without its end. -/
def bodyT (n v : ByteArray) : ByteArray := n ++ ⟨#[58, 32]⟩ ++ v
theorem body_data (n v : ByteArray) : (bodyT n v).data.toList = n.data.toList ++ [58, 32] ++ v.data.toList := by
  unfold bodyT
  rw [Joins.data_append, Joins.data_append]
theorem line_data (n v : ByteArray) : (lineT n v).data.toList = (bodyT n v).data.toList ++ [13, 10] := by
  unfold lineT bodyT
  rw [Joins.data_append]
theorem line_size (n v : ByteArray) : (lineT n v).size = n.size + v.size + 4 := by
  have h : (lineT n v).data.toList.length = n.data.toList.length + v.data.toList.length + 4 := by
    rw [line_data, body_data]; simp; omega
  exact h
theorem body_size (n v : ByteArray) : (bodyT n v).size = n.size + v.size + 2 := by
  have h : (bodyT n v).data.toList.length = n.data.toList.length + v.data.toList.length + 2 := by
    rw [body_data]; simp; omega
  exact h
theorem okF_parts {n v : ByteArray} (h : okF n v = true) : n.size ≤ 100 ∧ v.size ≤ 1000 ∧ allB tokP n.data.toList = true ∧ allB valP v.data.toList = true ∧ trimT v = v := by
  unfold okF okName okVal eqT at h
  simp only [Bool.and_eq_true, decide_eq_true_eq] at h
  obtain ⟨⟨h1, h2, _⟩, ⟨h3, h4⟩, h5⟩ := h
  refine ⟨h1, h3, h2, h4, bytes_eq ?_⟩
  rw [ByteArray.toList_eq, ByteArray.toList_eq] at h5
  exact beq_iff_eq.1 h5
theorem body_no {n v : ByteArray} (h : okF n v = true) : ∀ b ∈ (bodyT n v).data.toList, b ≠ 13 ∧ b ≠ 10 := by
  obtain ⟨_, _, h2, h4, _⟩ := okF_parts h
  unfold allB at h2 h4
  rw [List.all_eq_true] at h2 h4
  intro b hb
  rw [body_data] at hb
  rcases List.mem_append.1 hb with hb | hb
  · rcases List.mem_append.1 hb with hb | hb
    · exact (tok_no b (h2 b hb)).2
    · simp at hb
      rcases hb with rfl | rfl <;> decide
  · exact val_no b (h4 b hb)
theorem line_cut (n v : ByteArray) : (lineT n v).extract 0 ((lineT n v).size - 2) = bodyT n v := by
  refine bytes_eq ?_
  rw [ext_data, line_size, line_data]
  have e : n.size + v.size + 4 - 2 = (bodyT n v).data.toList.length := by show _ = (bodyT n v).size; rw [body_size]; omega
  rw [e, List.take_left]; rfl
theorem line_end (n v : ByteArray) : (lineT n v).extract ((lineT n v).size - 2) (lineT n v).size = ⟨#[13, 10]⟩ := by
  refine bytes_eq ?_
  rw [ext_data, List.take_of_length_le (show (lineT n v).data.toList.length ≤ (lineT n v).size from Nat.le_refl _), line_size, line_data]
  have e : n.size + v.size + 4 - 2 = (bodyT n v).data.toList.length := by show _ = (bodyT n v).size; rw [body_size]; omega
  rw [e, List.drop_left]
theorem prs_body {n v : ByteArray} (h : okF n v = true) : prs (bodyT n v) = (n, v, 0) := by
  obtain ⟨_, _, h2, h4, h5⟩ := okF_parts h
  have hl : n.data.toList.length = n.size := rfl
  have hk : n.size < (bodyT n v).size := by rw [body_size]; omega
  have hk' : n.size < (bodyT n v).data.toList.length := hk
  have e0 : (bodyT n v).data.toList.take n.size = n.data.toList := by
    rw [body_data, List.append_assoc, ← hl, List.take_left]
  have eb : (bodyT n v)[n.size] = 58 := by
    show (bodyT n v).data.toList[n.size] = 58
    have k : (bodyT n v).data.toList[n.size]? = some 58 := by
      rw [body_data, List.append_assoc, List.getElem?_append_right (by omega), hl, Nat.sub_self]; rfl
    rw [List.getElem?_eq_getElem hk'] at k
    exact Option.some.inj k
  have e1 : (bodyT n v).extract 0 n.size = n := bytes_eq (by rw [ext_data, e0]; rfl)
  have e2 : trimT ((bodyT n v).extract (n.size + 1) (bodyT n v).size) = v := by
    have e3 : ((bodyT n v).extract (n.size + 1) (bodyT n v).size).data.toList = [32] ++ v.data.toList := by
      rw [ext_data, List.take_of_length_le (show (bodyT n v).data.toList.length ≤ (bodyT n v).size from Nat.le_refl _), body_data]
      have e4 : n.data.toList ++ [58, 32] ++ v.data.toList = (n.data.toList ++ [58]) ++ ([32] ++ v.data.toList) := by simp
      rw [e4]
      have e5 : n.size + 1 = (n.data.toList ++ [58]).length := by simp
      rw [e5, List.drop_left]
    refine bytes_eq ?_
    show trimP _ = _
    rw [e3]
    have h6 : trimP v.data.toList = v.data.toList := congrArg (fun x : ByteArray => x.data.toList) h5
    have f1 : NF v.data.toList := by rw [← h6]; exact trim_front _
    have f2 : NL v.data.toList := by rw [← h6]; exact trim_last _
    have k := trim_around [32] v.data.toList [] (fun b hb => by rw [List.mem_singleton.1 hb]; decide) (fun b hb => by cases hb) f1 f2
    simpa using k
  rw [prs_at (bodyT n v) n.size hk (fun b hb => by
    rw [e0] at hb
    unfold allB at h2
    rw [List.all_eq_true] at h2
    exact (tok_no b (h2 b hb)).1) eb, e1, e2, h]
  rfl
end Go.Proofs.YtflgjhknobnnaabDoor
