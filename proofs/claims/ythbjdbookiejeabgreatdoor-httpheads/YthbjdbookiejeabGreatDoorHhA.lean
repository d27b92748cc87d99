/- Heads, plain: a head's last four bytes; what Request tells of a head. -/
import Derived.Test.YthbjdbookiejeabGreatDoorHgA
namespace Go.Proofs.YthbjdbookiejeabGreatDoor
open Go.RowKit
set_option linter.unusedVariables false

theorem fldL_tail (full : Bool) : ∀ (r : Nat) (l : List UInt8), ¬ (fldL full r l).2.1 = 0 → ∃ X, [13, 10] ++ l.take (fldL full r l).2.1 = X ++ [13, 10, 13, 10] := by
  intro r
  induction r with
  | zero =>
    intro l h
    rcases cut_cases 2048 l with ⟨i, hc, hl, ht⟩ | ⟨e, hc⟩
    · by_cases hi : i = 0
      · subst hi
        rw [fldL_end hc]
        exact ⟨[], by simp only; rw [show (2 : Nat) = 0 + 2 from rfl, ht]; rfl⟩
      · cases hf : fldOk (l.take i)
        · rw [fldL_bad hc hi hf] at h; exact absurd rfl h
        · rw [fldL_many hc hi hf] at h; exact absurd rfl h
    · rw [fldL_miss hc] at h; exact absurd rfl h
  | succ r ih =>
    intro l h
    rcases cut_cases 2048 l with ⟨i, hc, hl, ht⟩ | ⟨e, hc⟩
    · by_cases hi : i = 0
      · subst hi
        rw [fldL_end hc]
        exact ⟨[], by simp only; rw [show (2 : Nat) = 0 + 2 from rfl, ht]; rfl⟩
      · cases hf : fldOk (l.take i)
        · rw [fldL_bad hc hi hf] at h; exact absurd rfl h
        · rw [fldL_next hc hi hf] at h ⊢
          unfold plusH at h ⊢
          by_cases h0 : (fldL full r (l.drop (i + 2))).2.1 = 0
          · rw [if_pos h0] at h; exact absurd rfl h
          · rw [if_neg h0]
            obtain ⟨X, hX⟩ := ih _ h0
            refine ⟨[13, 10] ++ l.take i ++ X, ?_⟩
            simp only
            rw [List.take_add, ht, List.append_assoc, hX]
            simp only [List.append_assoc]
    · rw [fldL_miss hc] at h; exact absurd rfl h
theorem headL_tail (st : ByteArray → Int) (b : List UInt8) (h : ¬ (headL st b).2.1 = 0) : ∃ X, b.take (headL st b).2.1 = X ++ [13, 10, 13, 10] := by
  have ok := headL_ok st b
  have hle : (headL st b).2.1 ≤ 2048 := by have := ok.le; omega
  have e : b.take (headL st b).2.1 = (b.take 2048).take (headL st b).2.1 := by rw [List.take_take, Nat.min_eq_left hle]
  rw [e]
  rcases cut_cases 2048 (b.take 2048) with ⟨i, hc, hl, ht⟩ | ⟨e, hc⟩
  · by_cases hs : st (tx ((b.take 2048).take i)) = 0
    · rw [headL_hit hc hs] at h ⊢
      unfold plusH at h ⊢
      by_cases h0 : (fldL (fullB b) 40 ((b.take 2048).drop (i + 2))).2.1 = 0
      · rw [if_pos h0] at h; exact absurd rfl h
      · rw [if_neg h0]
        obtain ⟨X, hX⟩ := fldL_tail _ _ _ h0
        refine ⟨(b.take 2048).take i ++ X, ?_⟩
        simp only
        rw [List.take_add, ht, List.append_assoc, List.append_assoc, ← hX]
    · rw [headL_bad hc hs] at h; exact absurd rfl h
  · rw [headL_miss hc] at h; exact absurd rfl h
theorem headQ_n {b : List UInt8} (h : ¬ (headQ b).n = 0) : (headQ b).n = (headL rqSt b).2.1 := by
  unfold headQ at h ⊢
  by_cases h0 : (headL rqSt b).2.1 = 0
  · rw [if_pos h0] at h; exact absurd rfl h
  · rw [if_neg h0] at h ⊢
    by_cases h1 : headSt (headL rqSt b).1 (rqP (firstL b)).minor = 0
    · rw [if_pos h1]
    · rw [if_neg h1] at h; exact absurd rfl h
theorem headQ_tail {b : List UInt8} (h : ¬ (headQ b).n = 0) : ∃ X, b.take (headQ b).n = X ++ [13, 10, 13, 10] := by
  have e := headQ_n h
  rw [e]
  exact headL_tail rqSt b (by rw [← e]; exact h)
/-- The last four bytes of a head. -/
theorem headQ_end {b : List UInt8} (h : ¬ (headQ b).n = 0) : ∃ j, (headQ b).n = j + 4 ∧ (b.take (headQ b).n).drop j = [13, 10, 13, 10] := by
  obtain ⟨X, hX⟩ := headQ_tail h
  have hn := (headQ_ok b).le.1
  have hl : (b.take (headQ b).n).length = (headQ b).n := by rw [List.length_take]; omega
  rw [hX, List.length_append] at hl
  refine ⟨X.length, hl.symm, ?_⟩
  rw [hX, List.drop_left]
theorem bodyQ_cases (b : List UInt8) (n : Nat) (size : Int) (coded : Bool) : (bodyQ b n size coded).2.1 = 0 ∨ n ≤ (bodyQ b n size coded).2.1 := by
  unfold bodyQ
  cases coded
  · simp only [Bool.false_eq_true, if_false]
    by_cases h : ((b.length - n : Nat) : Int) < size
    · rw [if_pos h]; exact .inl rfl
    · rw [if_neg h]; exact .inr (Nat.le_add_right _ _)
  · simp only [if_true]
    by_cases h : (decR 4096 (b.drop n)).2.1 = 0
    · rw [if_pos h]; exact .inl rfl
    · rw [if_neg h]; exact .inr (Nat.le_add_right _ _)
/-- What Request tells behind a head. -/
theorem reqQ_cases (b : List UInt8) : ((headQ b).n = 0 ∧ reqQ b = rdNo (headQ b).st) ∨ (¬ (headQ b).n = 0 ∧ (headQ b).st = 0 ∧ ((∃ s, reqQ b = rdNo s ∧ (s = 0 ∨ s = 400 ∨ s = 413)) ∨ ∃ x n, reqQ b = ⟨(headQ b).m, (headQ b).t, (headQ b).minor, (headQ b).fs, x, n, 0⟩ ∧ (headQ b).n ≤ n ∧ ¬ n = 0)) := by
  unfold reqQ
  by_cases h0 : (headQ b).n = 0
  · rw [if_pos h0]; exact .inl ⟨h0, rfl⟩
  · rw [if_neg h0]
    refine .inr ⟨h0, (headQ_ok b).st h0, ?_⟩
    unfold rdOf
    by_cases h1 : (bodyOf (headQ b) b).2.1 = 0
    · rw [if_pos h1]
      refine .inl ⟨_, rfl, ?_⟩
      unfold bodySt
      split
      · exact .inl rfl
      · split
        · exact .inr (.inr rfl)
        · exact .inr (.inl rfl)
    · rw [if_neg h1]
      refine .inr ⟨_, _, rfl, ?_, h1⟩
      rcases bodyQ_cases b (headQ b).n (reqF (headQ b).fs (headQ b).minor).1 (reqF (headQ b).fs (headQ b).minor).2.1 with k | k
      · exact absurd k h1
      · exact k
end Go.Proofs.YthbjdbookiejeabGreatDoor
