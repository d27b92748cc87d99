/- What every right record's line is like: one byte 10, eight blanks, a digit that isn't 0 ahead; what isn't so is no line (plain). -/
import Derived.Test.YtdibldocfhpnkaaDoorEnM
namespace Go.Proofs.YtdibldocfhpnkaaDoor
open Go.RowKit
set_option linter.unusedVariables false

theorem count_none {z : UInt8} {l : List UInt8} (h : z ∉ l) : l.count z = 0 := List.count_eq_zero.2 h
theorem joinTail_count (z : UInt8) : ∀ ws : List (List UInt8), (∀ p ∈ ws, z ∉ p) → (Lib.joinTail [32] ws).count z = if z = 32 then ws.length else 0
  | [], _ => by unfold Lib.joinTail; split <;> rfl
  | x :: ws, h => by
    have e : Lib.joinTail [32] (x :: ws) = 32 :: (x ++ Lib.joinTail [32] ws) := by simp [Lib.joinTail]
    rw [e, List.count_cons, List.count_append, count_none (h x (List.mem_cons_self ..)), joinTail_count z ws fun p hp => h p (List.mem_cons_of_mem _ hp)]
    by_cases hz : z = 32
    · subst hz; simp
    · have : ¬ (32 : UInt8) = z := fun h => hz h.symm
      simp [hz, this]
theorem join_cons (x : List UInt8) (ws : List (List UInt8)) : Lib.join (x :: ws) [32] = x ++ Lib.joinTail [32] ws := by
  induction ws generalizing x with
  | nil => simp [Lib.join, Lib.joinTail, List.intercalate, List.intersperse]
  | cons y ws ih =>
    have k := ih y
    have e : Lib.joinTail [32] (y :: ws) = 32 :: (y ++ Lib.joinTail [32] ws) := by simp [Lib.joinTail]
    rw [e, ← k]
    simp [Lib.join, List.intercalate, List.intersperse]
theorem line_form (e : EntP) : lineL e = (itoaS e.q).data.toList ++ (Lib.joinTail [32] ((wordsE e).tail.map (·.data.toList)) ++ [10]) := by
  have h : (wordsE e).map (·.data.toList) = (itoaS e.q).data.toList :: (wordsE e).tail.map (·.data.toList) := rfl
  unfold lineL
  rw [h, join_cons, List.append_assoc]
theorem tail_clean {e : EntP} (h : rightE e = true) : ∀ p ∈ (wordsE e).tail.map (·.data.toList), (10 : UInt8) ∉ p ∧ (32 : UInt8) ∉ p := by
  intro p hp
  obtain ⟨q, hq, rfl⟩ := List.mem_map.1 hp
  exact words_clean h q (List.mem_of_mem_tail hq)
theorem q_pos {e : EntP} (h : rightE e = true) : 1 ≤ e.q := by
  unfold rightE withinP inB at h
  simp only [Bool.and_eq_true, decide_eq_true_eq] at h
  exact h.1.1.1
theorem line_c10 {e : EntP} (h : rightE e = true) : (lineL e).count 10 = 1 := by
  rw [line_form, List.count_append, List.count_append, count_none (itoa_clean _ (by have := q_pos h; omega)).1, joinTail_count 10 _ fun p hp => (tail_clean h p hp).1]
  rfl
theorem line_c32 {e : EntP} (h : rightE e = true) : (lineL e).count 32 = 8 := by
  rw [line_form, List.count_append, List.count_append, count_none (itoa_clean _ (by have := q_pos h; omega)).2, joinTail_count 32 _ fun p hp => (tail_clean h p hp).2]
  rfl
theorem dec_head (u : Nat) (h0 : 0 < u) : ∃ z r, Lib.decDigits u = z :: r ∧ 49 ≤ z.toNat ∧ z.toNat ≤ 57 := by
  induction u using Nat.strongRecOn with
  | ind u ih =>
    by_cases h : u < 10
    · rw [rx_dec_small h]
      exact ⟨_, _, rfl, by rw [UInt8.toNat_ofNat']; omega, by rw [UInt8.toNat_ofNat']; omega⟩
    · obtain ⟨z, r, e, h1, h2⟩ := ih (u / 10) (by omega) (by omega)
      rw [rx_dec_big h, e]
      exact ⟨z, _, rfl, h1, h2⟩
theorem line_head {e : EntP} (h : rightE e = true) : ∃ z r, lineL e = z :: r ∧ 49 ≤ z.toNat ∧ z.toNat ≤ 57 := by
  have hq := q_pos h
  obtain ⟨z, r, k, h1, h2⟩ := dec_head e.q.toNat (by omega)
  rw [line_form, itoa_dec _ (by omega), k]
  exact ⟨z, _, rfl, h1, h2⟩
theorem not_line {l : List UInt8} (h : l.count 10 ≠ 1 ∨ l.count 32 ≠ 8 ∨ (∃ z r, l = z :: r ∧ (z.toNat < 49 ∨ 57 < z.toNat))) : codR ⟨l.toArray⟩ = 20 := by
  unfold codR
  by_cases k : okR ⟨l.toArray⟩ = true
  · obtain ⟨h1, h2⟩ := read_line k
    have e : (ByteArray.mk l.toArray).data.toList = l := rfl
    rw [e] at h2
    rcases h with h | h | ⟨z, r, e1, h⟩
    · exact absurd (by rw [← h2]; exact line_c10 h1) h
    · exact absurd (by rw [← h2]; exact line_c32 h1) h
    · obtain ⟨z', r', e2, q1, q2⟩ := line_head h1
      rw [h2, e1] at e2
      obtain ⟨rfl, _⟩ := List.cons.inj e2
      omega
  · rw [if_neg k]
theorem line_end (e : EntP) : ∃ l, lineL e = l ++ [10] := ⟨_, rfl⟩
/-- Where the blanks are. -/
def blanksL (l : List UInt8) : List Nat := (List.range l.length).filter fun i => l.getD i 0 == 32
def blanksTo (l : List UInt8) (k : Nat) : List Nat := (List.range k).filter fun i => l.getD i 0 == 32
theorem blanksTo_succ (l : List UInt8) (k : Nat) : blanksTo l (k + 1) = blanksTo l k ++ (if l.getD k 0 == 32 then [k] else []) := by
  unfold blanksTo
  rw [List.range_succ, List.filter_append]
  congr 1
  rw [List.filter_cons, List.filter_nil]
theorem blanksTo_count (l : List UInt8) : ∀ k, k ≤ l.length → (blanksTo l k).length = (l.take k).count 32
  | 0, _ => rfl
  | k + 1, h => by
    rw [blanksTo_succ, List.length_append, blanksTo_count l k (by omega), List.take_succ_eq_append_getElem (by omega), List.count_append]
    congr 1
    have e : l.getD k 0 = l[k] := by simp [List.getD_eq_getElem?_getD, List.getElem?_eq_getElem (show k < l.length by omega)]
    rw [e]
    by_cases c : l[k] = 32
    · simp [c]
    · have : (l[k] == 32) = false := by simpa using c
      rw [this, List.count_singleton, this]; rfl
theorem blanks_len {e : EntP} (h : rightE e = true) : (blanksTo (lineL e) (lineL e).length).length = 8 := by
  rw [blanksTo_count _ _ (Nat.le_refl _), List.take_length, line_c32 h]
theorem blanksTo_at {l : List UInt8} {k i : Nat} (h : i ∈ blanksTo l k) : i < k ∧ l.getD i 0 = 32 := by
  unfold blanksTo at h
  obtain ⟨h1, h2⟩ := List.mem_filter.1 h
  exact ⟨List.mem_range.1 h1, by simpa using h2⟩
theorem words0 {e : EntP} (h : rightE e = true) (k : Nat) : codR ⟨(((lineL e).take k ++ [32]) ++ (lineL e).drop k).toArray⟩ = 20 := by
  refine not_line (.inr (.inl ?_))
  have := line_c32 h
  rw [← List.take_append_drop k (lineL e), List.count_append] at this
  rw [List.count_append, List.count_append]
  have e1 : ([32] : List UInt8).count 32 = 1 := rfl
  omega
theorem words1 {e : EntP} (h : rightE e = true) : codR ⟨([32] ++ lineL e).toArray⟩ = 20 := by
  refine not_line (.inr (.inl ?_))
  rw [List.count_append, line_c32 h]
  decide
theorem words2 (z : UInt8) (hz : z = 48 ∨ z = 45) (e : EntP) : codR ⟨([z] ++ lineL e).toArray⟩ = 20 :=
  not_line (.inr (.inr ⟨z, _, rfl, by rcases hz with rfl | rfl <;> decide⟩))
theorem words3 {e : EntP} (h : rightE e = true) : codR ⟨((lineL e).take ((lineL e).length - 1)).toArray⟩ = 20 := by
  refine not_line (.inl ?_)
  obtain ⟨l, hl⟩ := line_end e
  have k := line_c10 h
  rw [hl, List.count_append] at k
  have e1 : ([10] : List UInt8).count 10 = 1 := rfl
  rw [hl, List.length_append, List.length_singleton, Nat.add_sub_cancel, List.take_left']
  · omega
  · rfl
theorem words4 {e : EntP} (h : rightE e = true) : codR ⟨(lineL e ++ [10]).toArray⟩ = 20 := by
  refine not_line (.inl ?_)
  rw [List.count_append, line_c10 h]
  decide
theorem words5 {e : EntP} (h : rightE e = true) {k : Nat} (hk : k < (lineL e).length) (hb : (lineL e).getD k 0 = 32) : codR ⟨((lineL e).set k 9).toArray⟩ = 20 := by
  refine not_line (.inr (.inl ?_))
  have c := line_c32 h
  have e0 : (lineL e)[k] = 32 := by rw [← hb]; simp [List.getD_eq_getElem?_getD, List.getElem?_eq_getElem hk]
  have q := List.count_set (a := (9 : UInt8)) (b := 32) hk
  rw [q, e0, c]
  decide
theorem words6 {e : EntP} (h : rightE e = true) : codR ⟨(((lineL e).take ((lineL e).length - 1) ++ [32, 49]) ++ [10]).toArray⟩ = 20 := by
  refine not_line (.inr (.inl ?_))
  obtain ⟨l, hl⟩ := line_end e
  have k := line_c32 h
  rw [hl, List.count_append] at k
  have e1 : ([10] : List UInt8).count 32 = 0 := rfl
  have e2 : ([32, 49] : List UInt8).count 32 = 1 := rfl
  rw [hl, List.length_append, List.length_singleton, Nat.add_sub_cancel, List.take_left', List.count_append, List.count_append]
  · omega
  · rfl
end Go.Proofs.YtdibldocfhpnkaaDoor
