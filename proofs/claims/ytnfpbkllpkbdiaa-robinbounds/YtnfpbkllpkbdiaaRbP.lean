/- Sorting by steps (plain): two neighbours put in order. -/
import Derived.Test.YtnfpbkllpkbdiaaRbA
namespace Go.Proofs.Ytnfpbkllpkbdiaa
open Go.RowKit
set_option linter.unusedVariables false

/-- How far the flow at a place is away. -/
def KA (la : Int) (s : List Fl) (j : Nat) : Int := awayK la (s.getD j (0, 0)).1
/-- The same flows of each connection, in the same order. -/
def Stab (l s : List Fl) : Prop := s.length = l.length ∧ ∀ c : Int, s.filter (fun f => f.1 == c) = l.filter (fun f => f.1 == c)
theorem Stab.refl (l : List Fl) : Stab l l := ⟨rfl, fun _ => rfl⟩
theorem Stab.trans {a b c : List Fl} (h : Stab a b) (k : Stab b c) : Stab a c := ⟨k.1.trans h.1, fun x => (k.2 x).trans (h.2 x)⟩
/-- Two neighbours change places. -/
def sw (s : List Fl) (j : Nat) : List Fl := (s.set (j + 1) (s.getD j (0, 0))).set j (s.getD (j + 1) (0, 0))
theorem sw_len (s : List Fl) (j : Nat) : (sw s j).length = s.length := by unfold sw; simp
theorem sw_at (s : List Fl) (j x : Nat) (h : j + 1 < s.length) : (sw s j).getD x (0, 0) = if x = j then s.getD (j + 1) (0, 0) else if x = j + 1 then s.getD j (0, 0) else s.getD x (0, 0) := by
  unfold sw
  simp only [List.getD_eq_getElem?_getD, List.getElem?_set, List.length_set]
  by_cases h1 : x = j
  · subst h1
    have hx : x < s.length := by omega
    simp [hx]
  · have h1' : ¬ j = x := fun e => h1 e.symm
    rw [if_neg h1', if_neg h1]
    by_cases h2 : x = j + 1
    · subst h2; simp [h]
    · have h2' : ¬ j + 1 = x := fun e => h2 e.symm
      rw [if_neg h2', if_neg h2]
theorem sw_ka (la : Int) (s : List Fl) (j x : Nat) (h : j + 1 < s.length) : KA la (sw s j) x = if x = j then KA la s (j + 1) else if x = j + 1 then KA la s j else KA la s x := by
  unfold KA
  rw [sw_at s j x h]
  split
  · rfl
  · split <;> rfl
theorem split2 : ∀ (s : List Fl) (j : Nat), j + 1 < s.length → s = s.take j ++ s.getD j (0, 0) :: s.getD (j + 1) (0, 0) :: s.drop (j + 2)
  | [], _, h => by simp at h
  | [_], _, h => by simp at h
  | a :: b :: t, 0, _ => by simp
  | a :: b :: t, j + 1, h => by
    have k := split2 (b :: t) j (by simpa using h)
    simpa using k
theorem sw_split : ∀ (s : List Fl) (j : Nat), j + 1 < s.length → sw s j = s.take j ++ s.getD (j + 1) (0, 0) :: s.getD j (0, 0) :: s.drop (j + 2)
  | [], _, h => by simp at h
  | [_], _, h => by simp at h
  | a :: b :: t, 0, _ => by simp [sw]
  | a :: b :: t, j + 1, h => by
    have k := sw_split (b :: t) j (by simpa using h)
    unfold sw at k ⊢
    simpa using k
theorem sw_stab (la : Int) (s : List Fl) (j : Nat) (h : j + 1 < s.length) (hk : KA la s (j + 1) < KA la s j) : Stab s (sw s j) := by
  refine ⟨sw_len s j, fun c => ?_⟩
  have e1 := split2 s j h
  rw [sw_split s j h]
  unfold KA at hk
  generalize s.getD j (0, 0) = x at *
  generalize s.getD (j + 1) (0, 0) = y at *
  have hne : x.1 ≠ y.1 := fun e => by rw [e] at hk; omega
  generalize s.take j = A at *
  generalize s.drop (j + 2) = B at *
  rw [e1]
  simp only [List.filter_append, List.filter_cons]
  by_cases hx : x.1 = c
  · have hy : ¬ y.1 = c := fun e => hne (hx.trans e.symm)
    simp [hx, hy]
  · simp [hx]
/-- Sorted up to a place; sorted but for one. -/
def SrtTo (la : Int) (s : List Fl) (i : Nat) : Prop := ∀ p q, p < q → q < i → KA la s p ≤ KA la s q
def SrtBut (la : Int) (s : List Fl) (i j : Nat) : Prop := (∀ p q, p < q → q ≤ i → p ≠ j → q ≠ j → KA la s p ≤ KA la s q) ∧ ∀ q, j < q → q ≤ i → KA la s j < KA la s q
theorem srt_start {la : Int} {s : List Fl} {i : Nat} (h : SrtTo la s i) : SrtBut la s i i :=
  ⟨fun p q h1 h2 h3 h4 => h p q h1 (by omega), fun q h1 h2 => by omega⟩
theorem srt_step {la : Int} {s : List Fl} {i j : Nat} (h : SrtBut la s i (j + 1)) (hi : i < s.length) (hj : j + 1 ≤ i) (hk : KA la s (j + 1) < KA la s j) : SrtBut la (sw s j) i j := by
  have hs : j + 1 < s.length := by omega
  refine ⟨fun p q h1 h2 h3 h4 => ?_, fun q h1 h2 => ?_⟩
  · rw [sw_ka la s j p hs, sw_ka la s j q hs, if_neg h3, if_neg h4]
    by_cases e1 : p = j + 1
    · rw [if_pos e1, if_neg (by omega)]
      exact h.1 j q (by omega) h2 (by omega) (by omega)
    · rw [if_neg e1]
      by_cases e2 : q = j + 1
      · rw [if_pos e2]
        exact h.1 p j (by omega) (by omega) (by omega) (by omega)
      · rw [if_neg e2]
        exact h.1 p q h1 h2 e1 e2
  · rw [sw_ka la s j j hs, sw_ka la s j q hs, if_pos rfl, if_neg (by omega)]
    by_cases e2 : q = j + 1
    · rw [if_pos e2]; exact hk
    · rw [if_neg e2]
      exact h.2 q (by omega) h2
theorem srt_end {la : Int} {s : List Fl} {i j : Nat} (h : SrtBut la s i j) (hj : j ≤ i) (hk : j = 0 ∨ KA la s (j - 1) ≤ KA la s j) : SrtTo la s (i + 1) := by
  intro p q h1 h2
  by_cases e1 : p = j
  · subst e1
    have := h.2 q h1 (by omega); omega
  · by_cases e2 : q = j
    · subst e2
      rcases hk with hk | hk
      · omega
      · by_cases e3 : p = q - 1
        · rw [e3]; exact hk
        · have := h.1 p (q - 1) (by omega) (by omega) e1 (by omega); omega
    · exact h.1 p q h1 (by omega) e1 e2
theorem cmpU_neg (x y : Int) : (cmpU x y < 0) ↔ x < y := by unfold cmpU; split <;> (try split) <;> omega
end Go.Proofs.Ytnfpbkllpkbdiaa
