/- Plain lemmas: a number that is told is read back; how the reference gathers its digits. -/
import Derived.Test.YtmmileafiainnabDoorHexA
import Derived.Lib.ItoaNum
namespace Go.Proofs.YtmmileafiainnabDoor
open Go.RowKit
set_option linter.unusedVariables false

theorem dgN_dec (d : Nat) (h : d < 10) : dgN (UInt8.ofNat (48 + d)) = d := by
  have h10 : d = 0 ∨ d = 1 ∨ d = 2 ∨ d = 3 ∨ d = 4 ∨ d = 5 ∨ d = 6 ∨ d = 7 ∨ d = 8 ∨ d = 9 := by omega
  rcases h10 with rfl | rfl | rfl | rfl | rfl | rfl | rfl | rfl | rfl | rfl <;> decide
theorem dgN_hex (d : Nat) (h : d < 16) : dgN (hexD d) = d := by
  have h10 : d = 0 ∨ d = 1 ∨ d = 2 ∨ d = 3 ∨ d = 4 ∨ d = 5 ∨ d = 6 ∨ d = 7 ∨ d = 8 ∨ d = 9 ∨ d = 10 ∨ d = 11 ∨ d = 12 ∨ d = 13 ∨ d = 14 ∨ d = 15 := by omega
  rcases h10 with rfl | rfl | rfl | rfl | rfl | rfl | rfl | rfl | rfl | rfl | rfl | rfl | rfl | rfl | rfl | rfl <;> decide
theorem dec_small {u : Nat} (h : u < 10) : Lib.decDigits u = [UInt8.ofNat (48 + u)] := by rw [Lib.decDigits, dif_pos h]
theorem dec_big {u : Nat} (h : ¬ u < 10) : Lib.decDigits u = Lib.decDigits (u / 10) ++ [UInt8.ofNat (48 + u % 10)] := by rw [Lib.decDigits, dif_neg h]
theorem vN_dec (u : Nat) : vN 10 (Lib.decDigits u) = some u := by
  induction u using Nat.strongRecOn with
  | ind u ih =>
    by_cases h : u < 10
    · rw [dec_small h, show [UInt8.ofNat (48 + u)] = [] ++ [UInt8.ofNat (48 + u)] from rfl, vN_snoc]
      have d := dgN_dec u h
      simp only [vN, List.foldl_nil, stepV, Option.bind_some, d]
      rw [if_pos h]
      congr 1; omega
    · rw [dec_big h, vN_snoc, ih (u / 10) (by omega)]
      have d := dgN_dec (u % 10) (by omega)
      simp only [stepV, Option.bind_some, d]
      rw [if_pos (by omega)]
      congr 1; omega
theorem dec_len (k : Nat) : ∀ u, u < 10 ^ (k + 1) → (Lib.decDigits u).length ≤ k + 1 := by
  induction k with
  | zero => intro u h; rw [dec_small (by simpa using h)]; simp
  | succ k ih =>
    intro u h
    by_cases c : u < 10
    · rw [dec_small c]; simp
    · rw [dec_big c, List.length_append, List.length_singleton]
      have := ih (u / 10) (by rw [Nat.pow_succ, Nat.mul_comm] at h; exact Nat.div_lt_of_lt_mul h)
      omega
theorem dec_pos (u : Nat) : 1 ≤ (Lib.decDigits u).length := by
  by_cases c : u < 10
  · rw [dec_small c]; simp
  · rw [dec_big c]; simp

theorem hexGo_fold : ∀ (f u : Nat) (acc : List UInt8), u < 16 ^ (f + 1) → (hexGo (f + 1) u acc).foldl (stepV 16) (some 0) = acc.foldl (stepV 16) (some u)
  | 0, u, acc, h => by
    have c : u < 16 := by simpa using h
    rw [hexGo_end _ _ _ c, List.foldl_cons]
    simp [stepV, dgN_hex u c, c]
  | f + 1, u, acc, h => by
    by_cases c : u < 16
    · rw [hexGo_end _ _ _ c, List.foldl_cons]
      simp [stepV, dgN_hex u c, c]
    · rw [hexGo_step _ _ _ c, hexGo_fold f (u / 16) _ (by rw [Nat.pow_succ, Nat.mul_comm] at h; exact Nat.div_lt_of_lt_mul h), List.foldl_cons]
      have d := dgN_hex (u % 16) (by omega)
      simp only [stepV, Option.bind_some, d]
      rw [if_pos (by omega)]
      congr 2; omega
theorem vN_hex (n : Nat) (h : n < 16 ^ 17) : vN 16 (hexT n) = some n := by
  unfold vN hexT; rw [hexGo_fold 16 n [] h]; rfl
theorem hexGo_len : ∀ (k f u : Nat) (acc : List UInt8), u < 16 ^ (k + 1) → k ≤ f → (hexGo (f + 1) u acc).length ≤ acc.length + (k + 1)
  | 0, f, u, acc, h, _ => by
    rw [hexGo_end _ _ _ (by simpa using h)]; simp
  | k + 1, f, u, acc, h, hf => by
    by_cases c : u < 16
    · rw [hexGo_end _ _ _ c]; simp
    · obtain ⟨f', rfl⟩ : ∃ f', f = f' + 1 := ⟨f - 1, by omega⟩
      rw [hexGo_step _ _ _ c]
      have := hexGo_len k f' (u / 16) (hexD (u % 16) :: acc) (by rw [Nat.pow_succ, Nat.mul_comm] at h; exact Nat.div_lt_of_lt_mul h) (by omega)
      rw [List.length_cons] at this
      omega
theorem hexGo_ge : ∀ (f u : Nat) (acc : List UInt8), acc.length ≤ (hexGo f u acc).length
  | 0, u, acc => Nat.le_refl _
  | f + 1, u, acc => by
    by_cases c : u < 16
    · rw [hexGo_end _ _ _ c]; simp
    · rw [hexGo_step _ _ _ c]
      have := hexGo_ge f (u / 16) (hexD (u % 16) :: acc)
      rw [List.length_cons] at this
      omega
theorem hexT_pos (n : Nat) : 1 ≤ (hexT n).length := by
  unfold hexT
  by_cases c : n < 16
  · rw [hexGo_end _ _ _ c]; simp
  · rw [hexGo_step _ _ _ c]
    have := hexGo_ge 16 (n / 16) [hexD (n % 16)]
    simpa using this

theorem size_of (l : List UInt8) : (⟨l.toArray⟩ : ByteArray).size = l.length := rfl
/-- What is told of a number up to 10^15 is read back. -/
theorem back_dec (n : Nat) (h : n ≤ 1000000000000000) : numI 10 18 ⟨(Lib.decDigits n).toArray⟩ = n ∧ numB 10 18 ⟨(Lib.decDigits n).toArray⟩ = true := by
  have h1 := dec_len 15 n (Nat.lt_of_le_of_lt h (by decide))
  have h2 := dec_pos n
  exact num_ok (by rw [size_of]; omega) (vN_dec n)
theorem back_hex (n : Nat) (h : n ≤ 1000000000000000) : numI 16 15 ⟨(hexT n).toArray⟩ = n ∧ numB 16 15 ⟨(hexT n).toArray⟩ = true := by
  have h1 := hexGo_len 12 16 n [] (Nat.lt_of_le_of_lt h (by decide)) (by decide)
  have h2 := hexT_pos n
  rw [List.length_nil] at h1
  exact num_ok (by rw [size_of]; have h3 : (hexT n).length ≤ 0 + (12 + 1) := h1; omega) (vN_hex n (Nat.lt_of_le_of_lt h (by decide)))

/-- How far the reference has come: what is left of the number, what is told already. -/
def JD (n u : Nat) (acc : List UInt8) : Prop := (acc = [] ∧ u = n) ∨ (acc ≠ [] ∧ Lib.decDigits n = (if u = 0 then [] else Lib.decDigits u) ++ acc)
theorem JD_step {n u : Nat} {acc : List UInt8} (h : JD n u acc) (c : acc = [] ∨ 0 < u) : JD n (u / 10) (UInt8.ofNat (48 + u % 10) :: acc) := by
  refine .inr ⟨by simp, ?_⟩
  have key : Lib.decDigits u = (if u / 10 = 0 then [] else Lib.decDigits (u / 10)) ++ [UInt8.ofNat (48 + u % 10)] := by
    by_cases k : u < 10
    · rw [dec_small k, if_pos (by omega), Nat.mod_eq_of_lt k]; rfl
    · rw [dec_big k, if_neg (by omega)]
  rcases h with ⟨rfl, rfl⟩ | ⟨h1, h2⟩
  · exact key
  · have hu : 0 < u := by
      rcases c with c | c
      · exact absurd c h1
      · exact c
    rw [h2, if_neg (by omega), key, List.append_assoc]; rfl
theorem JD_end {n : Nat} {acc : List UInt8} (h : JD n 0 acc) (c : acc ≠ []) : acc = Lib.decDigits n := by
  rcases h with ⟨h1, _⟩ | ⟨_, h2⟩
  · exact absurd h1 c
  · rw [h2]; rfl
def JH (n u : Nat) (acc : List UInt8) : Prop := (acc = [] ∧ u = n) ∨ (acc ≠ [] ∧ ((u = 0 ∧ acc = hexT n) ∨ (0 < u ∧ ∃ f, u < 16 ^ (f + 1) ∧ hexGo (f + 1) u acc = hexT n)))
theorem JH_step {n u : Nat} {acc : List UInt8} (hn : n < 16 ^ 17) (h : JH n u acc) (c : acc = [] ∨ 0 < u) : JH n (u / 16) (hexD (u % 16) :: acc) := by
  refine .inr ⟨by simp, ?_⟩
  have key : ∃ f, u < 16 ^ (f + 1) ∧ hexGo (f + 1) u acc = hexT n := by
    rcases h with ⟨rfl, rfl⟩ | ⟨h1, h2⟩
    · exact ⟨16, hn, rfl⟩
    · rcases h2 with ⟨h2, _⟩ | ⟨_, h2⟩
      · rcases c with c | c
        · exact absurd c h1
        · omega
      · exact h2
  obtain ⟨f, hf, hg⟩ := key
  by_cases k : u < 16
  · left
    rw [hexGo_end _ _ _ k] at hg
    exact ⟨by omega, by rw [Nat.mod_eq_of_lt k]; exact hg⟩
  · right
    rw [hexGo_step _ _ _ k] at hg
    cases f with
    | zero => simp at hf; omega
    | succ f => exact ⟨by omega, f, by rw [Nat.pow_succ, Nat.mul_comm] at hf; exact Nat.div_lt_of_lt_mul hf, hg⟩
theorem JH_end {n : Nat} {acc : List UInt8} (h : JH n 0 acc) (c : acc ≠ []) : acc = hexT n := by
  rcases h with ⟨h1, _⟩ | ⟨_, ⟨_, h2⟩ | ⟨h2, _⟩⟩
  · exact absurd h1 c
  · exact h2
  · omega
end Go.Proofs.YtmmileafiainnabDoor
