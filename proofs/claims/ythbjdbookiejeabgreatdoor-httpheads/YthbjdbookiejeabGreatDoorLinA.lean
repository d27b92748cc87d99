/- Lines, byte by byte: where the first of them ends. -/
import Derived.Test.YthbjdbookiejeabGreatDoorRow
namespace Go.Proofs.YthbjdbookiejeabGreatDoor
open Go.RowKit
set_option linter.unusedVariables false

/-- What Cut finds from place i on: where the line ends, the error. -/
def cutAt (m : Nat) : Nat → List UInt8 → Option Nat × Int
  | _, [] => (none, 0)
  | i, c :: l =>
    if c = 10 then (none, 20)
    else if c = 13 then
      (if l.head? = none then (none, 0) else if l.head? = some 10 then (some i, 0) else (none, 20))
    else if m ≤ i then (none, 2) else cutAt m (i + 1) l
def cutS (m : Nat) (b : List UInt8) : List UInt8 := match (cutAt m 0 b).1 with | some i => b.take i | none => []
def cutN (m : Nat) (b : List UInt8) : Nat := match (cutAt m 0 b).1 with | some i => i + 2 | none => 0
def cutE (m : Nat) (b : List UInt8) : Int := (cutAt m 0 b).2
theorem cut_hit {m k : Nat} {b : List UInt8} (h : cutAt m 0 b = (some k, 0)) : cutS m b = b.take k ∧ cutN m b = k + 2 ∧ cutE m b = 0 := by
  unfold cutS cutN cutE; rw [h]; exact ⟨rfl, rfl, rfl⟩
theorem cut_miss {m : Nat} {e : Int} {b : List UInt8} (h : cutAt m 0 b = (none, e)) : cutS m b = [] ∧ cutN m b = 0 ∧ cutE m b = e := by
  unfold cutS cutN cutE; rw [h]; exact ⟨rfl, rfl, rfl⟩
theorem drop_head (b : List UInt8) (k : Nat) (h : k < b.length) : b.drop k = b[k] :: b.drop (k + 1) := List.drop_eq_getElem_cons h
theorem cutAt_ten {m k : Nat} {b : List UInt8} (h : k < b.length) (hc : b[k] = 10) : cutAt m k (b.drop k) = (none, 20) := by
  rw [drop_head b k h, cutAt, if_pos hc]
theorem cutAt_bad {m k : Nat} {b : List UInt8} (h : k + 1 < b.length) (hc : b[k] = 13) (hd : b[k + 1] ≠ 10) : cutAt m k (b.drop k) = (none, 20) := by
  rw [drop_head b k (by omega), cutAt, hc, if_neg (by decide), if_pos rfl, drop_head b (k + 1) h, List.head?_cons, if_neg (by simp), if_neg (by simpa using hd)]
theorem cutAt_last {m k : Nat} {b : List UInt8} (h : k + 1 = b.length) (hc : b[k] = 13) : cutAt m k (b.drop k) = (none, 0) := by
  rw [drop_head b k (by omega), cutAt, hc, if_neg (by decide), if_pos rfl, List.drop_eq_nil_of_le (by omega), List.head?_nil, if_pos rfl]
theorem cutAt_end {m k : Nat} {b : List UInt8} (h : k + 1 < b.length) (hc : b[k] = 13) (hd : b[k + 1] = 10) : cutAt m k (b.drop k) = (some k, 0) := by
  rw [drop_head b k (by omega), cutAt, hc, if_neg (by decide), if_pos rfl, drop_head b (k + 1) h, List.head?_cons, if_neg (by simp), if_pos (by rw [hd])]
theorem cutAt_long {m k : Nat} {b : List UInt8} (h : k < b.length) (h1 : b[k] ≠ 10) (h2 : b[k] ≠ 13) (hm : m ≤ k) : cutAt m k (b.drop k) = (none, 2) := by
  rw [drop_head b k h, cutAt, if_neg h1, if_neg h2, if_pos hm]
theorem cutAt_next {m k : Nat} {b : List UInt8} (h : k < b.length) (h1 : b[k] ≠ 10) (h2 : b[k] ≠ 13) (hm : ¬ m ≤ k) : cutAt m k (b.drop k) = cutAt m (k + 1) (b.drop (k + 1)) := by
  rw [drop_head b k h, cutAt, if_neg h1, if_neg h2, if_neg hm]
theorem cutAt_fin {m k : Nat} {b : List UInt8} (h : b.length ≤ k) : cutAt m k (b.drop k) = (none, 0) := by
  rw [List.drop_eq_nil_of_le h, cutAt]
theorem head_app (l more : List UInt8) (h : l.head? ≠ none) : (l ++ more).head? = l.head? := by cases l with | nil => exact absurd rfl h | cons a l => rfl
/-- What is found in a beginning is found in more. -/
theorem cutAt_app (m : Nat) (more : List UInt8) : ∀ (l : List UInt8) (i : Nat), cutAt m i l ≠ (none, 0) → cutAt m i (l ++ more) = cutAt m i l
  | [], i, h => absurd rfl h
  | c :: l, i, h => by
    rw [List.cons_append, cutAt, cutAt]
    rw [cutAt] at h
    by_cases h1 : c = 10
    · rw [if_pos h1, if_pos h1]
    · rw [if_neg h1] at h; rw [if_neg h1, if_neg h1]
      by_cases h2 : c = 13
      · rw [if_pos h2] at h; rw [if_pos h2, if_pos h2]
        by_cases h3 : l.head? = none
        · rw [if_pos h3] at h; exact absurd rfl h
        · rw [head_app l more h3]
      · rw [if_neg h2] at h; rw [if_neg h2, if_neg h2]
        by_cases h3 : m ≤ i
        · rw [if_pos h3, if_pos h3]
        · rw [if_neg h3] at h; rw [if_neg h3, if_neg h3]; exact cutAt_app m more l (i + 1) h
/-- Where a line ends, its end stands. -/
theorem cutAt_some (m : Nat) : ∀ (l : List UInt8) (i k : Nat) (e : Int), cutAt m i l = (some k, e) → e = 0 ∧ ∃ j, k = i + j ∧ j + 2 ≤ l.length ∧ l.take (j + 2) = l.take j ++ [13, 10]
  | [], i, k, e, h => by simp [cutAt] at h
  | c :: l, i, k, e, h => by
    rw [cutAt] at h
    by_cases h1 : c = 10
    · rw [if_pos h1] at h; simp at h
    · rw [if_neg h1] at h
      by_cases h2 : c = 13
      · rw [if_pos h2] at h
        by_cases h3 : l.head? = none
        · rw [if_pos h3] at h; simp at h
        · rw [if_neg h3] at h
          by_cases h4 : l.head? = some 10
          · rw [if_pos h4] at h
            cases l with
            | nil => simp at h4
            | cons d l =>
              have : d = 10 := by simpa using h4
              subst this
              subst h2
              have h5 : i = k ∧ 0 = e := by simpa using h
              refine ⟨h5.2.symm, 0, by omega, by simp, by simp⟩
          · rw [if_neg h4] at h; simp at h
      · rw [if_neg h2] at h
        by_cases h3 : m ≤ i
        · rw [if_pos h3] at h; simp at h
        · rw [if_neg h3] at h
          obtain ⟨e0, j, hj, hl, ht⟩ := cutAt_some m l (i + 1) k e h
          refine ⟨e0, j + 1, by omega, by simp; omega, ?_⟩
          rw [show j + 1 + 2 = (j + 2) + 1 by omega, List.take_succ_cons, List.take_succ_cons, ht]; rfl
theorem cut_cases (m : Nat) (b : List UInt8) : (∃ k, cutAt m 0 b = (some k, 0) ∧ k + 2 ≤ b.length ∧ b.take (k + 2) = b.take k ++ [13, 10]) ∨ ∃ e, cutAt m 0 b = (none, e) := by
  rcases h : cutAt m 0 b with ⟨_ | k, e⟩
  · exact .inr ⟨e, rfl⟩
  · obtain ⟨rfl, j, hj, hl, ht⟩ := cutAt_some m b 0 k e h
    have : k = j := by omega
    subst this
    exact .inl ⟨k, rfl, hl, ht⟩
def plain (s : List UInt8) : Bool := s.all fun c => c != 13 && c != 10
theorem cutAt_plain (m : Nat) (rest : List UInt8) : ∀ (s : List UInt8) (i : Nat), i ≤ m → plain s = true → cutAt m i (s ++ 13 :: 10 :: rest) = if m < i + s.length then (none, 2) else (some (i + s.length), 0)
  | [], i, hi, h => by
    rw [List.nil_append, cutAt, if_neg (by decide), if_pos rfl, if_neg (by simp), if_pos (by simp), if_neg (by simp; omega)]
    simp
  | c :: s, i, hi, h => by
    have h' : (c ≠ 13 ∧ c ≠ 10) ∧ plain s = true := by simpa [plain] using h
    rw [List.cons_append, cutAt, if_neg h'.1.2, if_neg h'.1.1]
    by_cases hm : m ≤ i
    · rw [if_pos hm, if_pos (by simp; omega)]
    · rw [if_neg hm, cutAt_plain m rest s (i + 1) (by omega) h'.2]
      simp only [List.length_cons, Nat.add_assoc, Nat.add_comm 1]
theorem u8_ne {c : UInt8} {n : Nat} (h : ¬ (c.toNat : Int) = n) (hn : n < 256) : c ≠ UInt8.ofNat n := by
  intro e
  apply h
  rw [e]
  have : (UInt8.ofNat n).toNat = n := by simp; omega
  rw [this]
theorem conv_take {w : World} {k off c : Nat} {b : List UInt8} (h : ∀ (j : Nat) (hj : j < b.length), w.cell? ⟨k, off + j, none⟩ = some (bv b[j])) (i : Nat) (hi : i ≤ b.length) : (convert 22 9 (.slice (some ⟨k, off, none⟩) i c)).run Tryz.prog w = .ok (.string ⟨(b.take i).toArray⟩) w := by
  have hl : (b.take i).length = i := by rw [List.length_take]; omega
  have r := run_convert_bytes_back (P := Tryz.prog) w 22 9 5 ⟨k, off, none⟩ c (b.take i) Tryz.underlying22 Tryz.underlying5 Tryz.underlying9 (fun j hj => by rw [addr_add, List.getElem_take]; exact h j (by omega))
  rw [hl] at r
  exact r
end Go.Proofs.YthbjdbookiejeabGreatDoor
