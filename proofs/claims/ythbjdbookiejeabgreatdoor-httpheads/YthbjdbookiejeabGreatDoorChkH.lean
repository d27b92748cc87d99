/- What is told of a beginning is told of more. -/
import Derived.Test.YthbjdbookiejeabGreatDoorChkE
namespace Go.Proofs.YthbjdbookiejeabGreatDoor
open Go.RowKit
set_option linter.unusedVariables false

theorem endsP_app (d more : List UInt8) (h : endsP d ≠ (false, 0)) : endsP (d ++ more) = endsP d := by
  match d with
  | [] => exact absurd rfl h
  | [x] =>
    by_cases hx : x = 13
    · subst hx; exact absurd rfl h
    · have e1 : endsP [x] = (false, 20) := by simp [endsP, hx]
      have e2 : endsP ([x] ++ more) = (false, 20) := by simp [endsP, hx]
      rw [e1, e2]
  | x :: y :: r => rfl
theorem endsP_cases (d : List UInt8) : endsP d = (false, 0) ∨ endsP d = (false, 20) ∨ endsP d = (true, 0) := by
  match d with
  | [] => exact .inl rfl
  | [x] => by_cases hx : x = 13 <;> simp [endsP, hx]
  | x :: y :: r => by_cases hx : x = 13 <;> by_cases hy : y = 10 <;> simp [endsP, hx, hy]
theorem oneP_app (m : Nat) (l more : List UInt8) (h : oneP m l ≠ (0, 0, 0, 0)) : oneP m (l ++ more) = oneP m l := by
  rcases cut_cases 256 l with ⟨i, hc, hl, _⟩ | ⟨e, hc⟩
  · have hc2 : cutAt 256 0 (l ++ more) = (some i, 0) := by rw [cutAt_app 256 more l 0 (by rw [hc]; simp), hc]
    rw [oneP_hit hc] at h ⊢
    rw [oneP_hit hc2, List.take_append_of_le_length (by omega)]
    cases hz : szO (l.take i) with
    | none => rfl
    | some k =>
      rw [hz] at h
      rw [oneK_some] at h ⊢
      rw [oneK_some]
      by_cases h1 : m < k
      · rw [if_pos h1, if_pos h1]
      · rw [if_neg h1] at h
        rw [if_neg h1, if_neg h1]
        by_cases h2 : k = 0
        · rw [if_pos h2, if_pos h2]
        · rw [if_neg h2] at h
          rw [if_neg h2, if_neg h2]
          by_cases h3 : l.length - (i + 2) < k
          · rw [if_pos h3] at h; exact absurd rfl h
          · rw [if_neg h3] at h
            rw [if_neg h3, if_neg (by rw [List.length_append]; omega), List.drop_append_of_le_length (by omega), endsP_app]
            intro he
            rw [he] at h
            exact h rfl
  · rw [oneP_miss hc] at h ⊢
    have he : e ≠ 0 := fun c => h (by rw [c])
    exact oneP_miss (by rw [cutAt_app 256 more l 0 (by rw [hc]; simpa using he), hc])
theorem plusN_ne {i : Nat} {r : Nat × Int} (h : plusN i r ≠ (0, 0)) : r ≠ (0, 0) := fun c => h (by rw [c]; rfl)
theorem trailL_app (more : List UInt8) : ∀ (r : Nat) (l : List UInt8), trailL r l ≠ (0, 0) → trailL r (l ++ more) = trailL r l := by
  intro r
  induction r with
  | zero =>
    intro l h
    rcases cut_cases 256 l with ⟨i, hc, hl, _⟩ | ⟨e, hc⟩
    · have hc2 : cutAt 256 0 (l ++ more) = (some i, 0) := by rw [cutAt_app 256 more l 0 (by rw [hc]; simp), hc]
      have ht : (l ++ more).take i = l.take i := List.take_append_of_le_length (by omega)
      by_cases hi : i = 0
      · subst hi; rw [trailL_end hc, trailL_end hc2]
      · cases hf : fldOk (l.take i)
        · rw [trailL_bad hc hi hf, trailL_bad hc2 hi (by rw [ht]; exact hf)]
        · rw [trailL_many hc hi hf, trailL_many hc2 hi (by rw [ht]; exact hf)]
    · rw [trailL_miss hc] at h ⊢
      have he : e ≠ 0 := fun c => h (by rw [c])
      exact trailL_miss (by rw [cutAt_app 256 more l 0 (by rw [hc]; simpa using he), hc])
  | succ r ih =>
    intro l h
    rcases cut_cases 256 l with ⟨i, hc, hl, _⟩ | ⟨e, hc⟩
    · have hc2 : cutAt 256 0 (l ++ more) = (some i, 0) := by rw [cutAt_app 256 more l 0 (by rw [hc]; simp), hc]
      have ht : (l ++ more).take i = l.take i := List.take_append_of_le_length (by omega)
      by_cases hi : i = 0
      · subst hi; rw [trailL_end hc, trailL_end hc2]
      · cases hf : fldOk (l.take i)
        · rw [trailL_bad hc hi hf, trailL_bad hc2 hi (by rw [ht]; exact hf)]
        · rw [trailL_next hc hi hf] at h ⊢
          rw [trailL_next hc2 hi (by rw [ht]; exact hf), List.drop_append_of_le_length (by omega), ih _ (plusN_ne h)]
    · rw [trailL_miss hc] at h ⊢
      have he : e ≠ 0 := fun c => h (by rw [c])
      exact trailL_miss (by rw [cutAt_app 256 more l 0 (by rw [hc]; simpa using he), hc])
def Done (r : List UInt8 × Nat × Int) : Prop := r.2.1 ≠ 0 ∨ r.2.2 ≠ 0
theorem done_plusD {a : List UInt8} {i : Nat} {r : List UInt8 × Nat × Int} (h : Done (plusD a i r)) : Done r := by
  unfold plusD at h
  by_cases c : r.2.1 = 0
  · rw [if_pos c] at h
    rcases h with h | h
    · exact absurd rfl h
    · exact .inr h
  · exact .inl c
theorem decL_app (more : List UInt8) : ∀ (f f' m : Nat) (l : List UInt8), f ≤ f' → Done (decL f m l) → decL f' m (l ++ more) = decL f m l := by
  intro f
  induction f with
  | zero =>
    intro f' m l _ h
    rcases h with h | h <;> exact absurd rfl h
  | succ f ih =>
    intro f' m l hf h
    obtain ⟨g, rfl⟩ : ∃ g, f' = g + 1 := ⟨f' - 1, by omega⟩
    rcases oneP_cases m l with ⟨e, ho⟩ | ⟨i, ho, hi, _⟩ | ⟨i, k, ho, hk, _, hi, _⟩
    · rw [decL_miss ho] at h ⊢
      have he : e ≠ 0 := by
        rcases h with h | h
        · exact absurd rfl h
        · exact h
      exact decL_miss (by rw [oneP_app m l more (by rw [ho]; simpa using he), ho])
    · have ho2 : oneP m (l ++ more) = (0, i + 2, 0, 0) := by rw [oneP_app m l more (by rw [ho]; simp), ho]
      rw [decL_last ho (by omega)] at h ⊢
      rw [decL_last ho2 (by omega), List.drop_append_of_le_length (by omega), trailL_app]
      intro c
      have := done_plusD h
      rw [c] at this
      rcases this with h | h <;> exact absurd rfl h
    · have ho2 : oneP m (l ++ more) = (0, i + 2 + k + 2, i + 2, k) := by rw [oneP_app m l more (by rw [ho]; simp), ho]
      rw [decL_next ho (by omega) (by omega)] at h ⊢
      rw [decL_next ho2 (by omega) (by omega), List.drop_append_of_le_length (by omega), List.take_append_of_le_length (by rw [List.length_drop]; omega), List.drop_append_of_le_length (by omega), ih g _ _ (by omega) (done_plusD h)]
theorem decR_app (m : Nat) (l more : List UInt8) (h : Done (decR m l)) : decR m (l ++ more) = decR m l := by
  unfold decR at *
  exact decL_app more _ _ m l (by rw [List.length_append]; omega) h
theorem decR_ok (m : Nat) (l : List UInt8) : okR (decR m l) := decL_ok _ _ _
end Go.Proofs.YthbjdbookiejeabGreatDoor
