/- The lines of a text, each with its end, plain. -/
import Derived.Test.YtdibldocfhpnkaaDoorBase
import Derived.Lib.Bytealg
namespace Go.Proofs.YtdibldocfhpnkaaDoor
open Go.RowKit
set_option linter.unusedVariables false

def lnA : List UInt8 → List UInt8 → List (List UInt8)
  | acc, [] => if acc = [] then [] else [acc]
  | acc, b :: l => if b = 10 then (acc ++ [b]) :: lnA [] l else lnA (acc ++ [b]) l
/-- The lines. -/
def linesL (l : List UInt8) : List (List UInt8) := lnA [] l
theorem lnA_hit : ∀ (l acc : List UInt8) (i : Nat), Lib.indexByte l 10 = i → lnA acc l = (acc ++ l.take (i + 1)) :: linesL (l.drop (i + 1))
  | [], acc, i, h => by unfold Lib.indexByte at h; omega
  | b :: l, acc, i, h => by
    unfold Lib.indexByte at h
    by_cases hb : b = 10
    · subst hb
      rw [if_pos (by rfl)] at h
      have : i = 0 := by omega
      subst this
      unfold lnA
      rw [if_pos rfl]
      rfl
    · rw [if_neg (by simpa using hb)] at h
      by_cases h2 : Lib.indexByte l 10 = -1
      · rw [if_pos (by simpa using h2)] at h
        omega
      · rw [if_neg (by simpa using h2)] at h
        have hge := Lib.indexByte_ge l 10
        obtain ⟨j, hj⟩ : ∃ j : Nat, Lib.indexByte l 10 = j := ⟨(Lib.indexByte l 10).toNat, by omega⟩
        have : i = j + 1 := by omega
        subst this
        unfold lnA
        rw [if_neg hb, lnA_hit l (acc ++ [b]) j hj]
        simp
theorem lnA_miss : ∀ (l acc : List UInt8), Lib.indexByte l 10 = -1 → acc ++ l ≠ [] → lnA acc l = [acc ++ l]
  | [], acc, _, h => by
    unfold lnA
    rw [List.append_nil] at h
    rw [if_neg h, List.append_nil]
  | b :: l, acc, h, hn => by
    unfold Lib.indexByte at h
    by_cases hb : b = 10
    · subst hb
      rw [if_pos (by rfl)] at h
      exact absurd h (by decide)
    · rw [if_neg (by simpa using hb)] at h
      have h2 : Lib.indexByte l 10 = -1 := by
        by_cases h2 : Lib.indexByte l 10 = -1
        · exact h2
        · rw [if_neg (by simpa using h2)] at h
          have := Lib.indexByte_ge l 10
          omega
      unfold lnA
      rw [if_neg hb, lnA_miss l (acc ++ [b]) h2 (by simp)]
      simp
theorem lines_hit (l : List UInt8) (i : Nat) (h : Lib.indexByte l 10 = i) : linesL l = l.take (i + 1) :: linesL (l.drop (i + 1)) := by
  have := lnA_hit l [] i h
  rwa [List.nil_append] at this
theorem lines_miss (l : List UInt8) (h : Lib.indexByte l 10 = -1) (hn : l ≠ []) : linesL l = [l] := by
  have := lnA_miss l [] h (by simpa using hn)
  rwa [List.nil_append] at this
theorem lines_nil : linesL [] = [] := rfl
theorem idx_lt (c : UInt8) : ∀ (l : List UInt8) (i : Nat), Lib.indexByte l c = i → i < l.length
  | [], i, h => by unfold Lib.indexByte at h; omega
  | b :: l, i, h => by
    unfold Lib.indexByte at h
    split at h
    · simp; omega
    · split at h
      · omega
      · have hge := Lib.indexByte_ge l c
        have h2 : ¬ Lib.indexByte l c = -1 := by simpa using (by assumption : ¬ (Lib.indexByte l c == -1) = true)
        obtain ⟨j, hj⟩ : ∃ j : Nat, Lib.indexByte l c = j := ⟨(Lib.indexByte l c).toNat, by omega⟩
        have := idx_lt c l j hj
        simp; omega
end Go.Proofs.YtdibldocfhpnkaaDoor
