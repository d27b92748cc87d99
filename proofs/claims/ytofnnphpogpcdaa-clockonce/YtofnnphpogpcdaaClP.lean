/- A heap of moments (plain). -/
import Derived.Test.YtofnnphpogpcdaaRows
namespace Go.Proofs.Ytofnnphpogpcdaa
set_option linter.unusedVariables false

/-- A moment: the block in which it lies, its number, when it is. -/
structure Mo where
  b : Nat
  i : Int
  t : Int
def ltM (x y : Mo) : Bool := if x.t = y.t then decide (x.i < y.i) else decide (x.t < y.t)
def leM (x y : Mo) : Prop := ltM y x = false
theorem ltM_iff (x y : Mo) : ltM x y = true ↔ x.t < y.t ∨ (x.t = y.t ∧ x.i < y.i) := by
  unfold ltM
  split
  · rename_i h; simp; omega
  · rename_i h; simp; omega
theorem leM_iff (x y : Mo) : leM x y ↔ x.t < y.t ∨ (x.t = y.t ∧ x.i ≤ y.i) := by
  unfold leM
  rw [← Bool.not_eq_true, ltM_iff]; omega
theorem leM.trans {x y z : Mo} (h : leM x y) (k : leM y z) : leM x z := by rw [leM_iff] at *; omega
theorem ltM_le {x y : Mo} (h : ltM x y = true) : leM x y := by rw [ltM_iff] at h; rw [leM_iff]; omega
theorem leM.refl (x : Mo) : leM x x := by rw [leM_iff]; omega
def par (k : Nat) : Nat := (k - 1) / 2
abbrev MoF := Nat → Mo
def HpOk (n : Nat) (H : MoF) : Prop := ∀ k, 0 < k → k < n → leM (H (par k)) (H k)
/-- All is right but what stands at j. -/
def UpI (n : Nat) (H : MoF) (j : Nat) : Prop := (∀ k, 0 < k → k < n → k ≠ j → leM (H (par k)) (H k)) ∧ (∀ k, 0 < k → k < n → par k = j → 0 < j → leM (H (par j)) (H k))
def DnI (n : Nat) (H : MoF) (i : Nat) : Prop := (∀ k, 0 < k → k < n → par k ≠ i → leM (H (par k)) (H k)) ∧ (∀ k, 0 < k → k < n → par k = i → 0 < i → leM (H (par i)) (H k))
def BoI (n : Nat) (H : MoF) (i : Nat) : Prop := (∀ k, 0 < k → k < n → k ≠ i → par k ≠ i → leM (H (par k)) (H k)) ∧ (∀ k, 0 < k → k < n → par k = i → 0 < i → leM (H (par i)) (H k))
def swH (H : MoF) (i j : Nat) : MoF := fun k => if k = i then H j else if k = j then H i else H k
theorem swH_a (H : MoF) (i j : Nat) : swH H i j i = H j := if_pos rfl
theorem swH_b (H : MoF) (i j : Nat) (h : j ≠ i) : swH H i j j = H i := by unfold swH; rw [if_neg h, if_pos rfl]
theorem swH_o (H : MoF) (i j k : Nat) (h : k ≠ i) (h2 : k ≠ j) : swH H i j k = H k := by unfold swH; rw [if_neg h, if_neg h2]
theorem DnI.bo {n : Nat} {H : MoF} {i : Nat} (h : DnI n H i) : BoI n H i := ⟨fun k a b _ d => h.1 k a b d, h.2⟩
theorem HpOk.bo {n : Nat} {H : MoF} {G : MoF} {i : Nat} (h : HpOk n H) (e : ∀ k, k < n → k ≠ i → G k = H k) (hi : i < n) : BoI n G i := by
  refine ⟨fun k a b c d => ?_, fun k a b c d => ?_⟩
  · rw [e k b c, e (par k) (by unfold par; omega) d]; exact h k a b
  · have h1 := h k a b
    have h2 := h i d hi
    rw [c] at h1
    rw [e k b (by unfold par at c; omega), e (par i) (by unfold par; omega) (by unfold par; omega)]
    exact h2.trans h1
theorem HpOk.up {n : Nat} {H G : MoF} (h : HpOk n H) (e : ∀ k, k < n → G k = H k) : UpI (n + 1) G n := by
  refine ⟨fun k a b c => ?_, fun k a b c d => ?_⟩
  · rw [e k (by omega), e (par k) (by unfold par; omega)]; exact h k a (by omega)
  · unfold par at c; omega
theorem up_zero {n : Nat} {H : MoF} (h : UpI n H 0) : HpOk n H := fun k a b => h.1 k a b (by omega)
theorem up_done {n : Nat} {H : MoF} {j : Nat} (h : UpI n H j) (k : ltM (H j) (H (par j)) = false) : HpOk n H := fun q a b => by
  by_cases c : q = j
  · rw [c]; exact k
  · exact h.1 q a b c
theorem up_step {n : Nat} {H : MoF} {j : Nat} (h : UpI n H j) (h0 : 0 < j) (hj : j < n) (hl : ltM (H j) (H (par j)) = true) : UpI n (swH H (par j) j) (par j) := by
  have hp : par j < j := by unfold par; omega
  refine ⟨fun k a b c => ?_, fun k a b c d => ?_⟩
  · by_cases e : k = j
    · subst e
      rw [swH_a, swH_b _ _ _ (by omega)]
      exact ltM_le hl
    · rw [swH_o _ _ _ k c e]
      by_cases f : par k = j
      · rw [f, swH_b _ _ _ (by omega)]
        exact h.2 k a b f h0
      · by_cases g : par k = par j
        · rw [g, swH_a]
          have := h.1 k a b e
          rw [g] at this
          exact (ltM_le hl).trans this
        · rw [swH_o _ _ _ _ g f]
          exact h.1 k a b e
  · have hpp : par (par j) < par j := by unfold par at *; omega
    rw [swH_o _ _ _ (par (par j)) (by omega) (by omega)]
    have h1 := h.1 (par j) d (by omega) (by omega)
    by_cases e : k = j
    · subst e
      rw [swH_b _ _ _ (by omega)]
      exact h1
    · rw [swH_o _ _ _ k (by intro q; rw [q] at c; omega) e]
      have := h.1 k a b e
      rw [c] at this
      exact h1.trans this
theorem bo_leaf {n : Nat} {H : MoF} {i : Nat} (h : BoI n H i) (hn : n ≤ 2 * i + 1) : UpI n H i :=
  ⟨fun k a b c => h.1 k a b c (by unfold par; omega), h.2⟩
theorem dn_leaf {n : Nat} {H : MoF} {i : Nat} (h : DnI n H i) (hn : n ≤ 2 * i + 1) : HpOk n H :=
  fun k a b => h.1 k a b (by unfold par; omega)
/-- j is the lesser child of i. -/
def SmC (n : Nat) (H : MoF) (i j : Nat) : Prop := j < n ∧ ((j = 2 * i + 1 ∧ (2 * i + 2 < n → leM (H j) (H (2 * i + 2)))) ∨ (j = 2 * i + 2 ∧ leM (H j) (H (2 * i + 1))))
theorem SmC.le {n : Nat} {H : MoF} {i j : Nat} (s : SmC n H i j) {k : Nat} (h0 : 0 < k) (hk : k < n) (hp : par k = i) : leM (H j) (H k) := by
  have e : k = 2 * i + 1 ∨ k = 2 * i + 2 := by unfold par at hp; omega
  obtain ⟨_, ⟨rfl, h⟩ | ⟨rfl, h⟩⟩ := s
  · rcases e with e | e
    · rw [e]; exact leM.refl _
    · rw [e] at hk ⊢; exact h hk
  · rcases e with e | e
    · rw [e]; exact h
    · rw [e]; exact leM.refl _
theorem SmC.par {n : Nat} {H : MoF} {i j : Nat} (s : SmC n H i j) : Go.Proofs.Ytofnnphpogpcdaa.par j = i ∧ i < j ∧ j < n := by
  obtain ⟨h0, ⟨rfl, h⟩ | ⟨rfl, h⟩⟩ := s <;> unfold Go.Proofs.Ytofnnphpogpcdaa.par <;> omega
theorem bo_stop {n : Nat} {H : MoF} {i j : Nat} (h : BoI n H i) (s : SmC n H i j) (hl : ltM (H j) (H i) = false) : UpI n H i := by
  refine ⟨fun k a b c => ?_, h.2⟩
  by_cases e : par k = i
  · rw [e]
    have : leM (H i) (H j) := hl
    exact this.trans (s.le a b e)
  · exact h.1 k a b c e
theorem dn_stop {n : Nat} {H : MoF} {i j : Nat} (h : DnI n H i) (s : SmC n H i j) (hl : ltM (H j) (H i) = false) : HpOk n H := by
  intro k a b
  by_cases e : par k = i
  · rw [e]
    have : leM (H i) (H j) := hl
    exact this.trans (s.le a b e)
  · exact h.1 k a b e
theorem dn_step {n : Nat} {H : MoF} {i j : Nat} (h : BoI n H i) (s : SmC n H i j) (hl : ltM (H j) (H i) = true) : DnI n (swH H i j) j := by
  obtain ⟨hp, hij, hjn⟩ := s.par
  refine ⟨fun k a b c => ?_, fun k a b c d => ?_⟩
  · by_cases e : k = i
    · subst e
      have hk : par k < k := by unfold par; omega
      rw [swH_a, swH_o _ _ _ (par k) (by omega) (by omega)]
      exact h.2 j (by omega) hjn hp a
    · by_cases f : par k = i
      · rw [f, swH_a]
        by_cases g : k = j
        · subst g
          rw [swH_b _ _ _ (by omega)]
          exact ltM_le hl
        · rw [swH_o _ _ _ k e g]
          exact s.le a b f
      · have g : k ≠ j := by intro q; rw [q] at f; exact f hp
        rw [swH_o _ _ _ k e g, swH_o _ _ _ (par k) f c]
        exact h.1 k a b e f
  · have hk : j < k := by unfold par at c; omega
    rw [hp, swH_a, swH_o _ _ _ k (by omega) (by omega)]
    have := h.1 k a b (by omega) (by omega)
    rw [c] at this
    exact this
/-- The first is the least. -/
theorem HpOk.least {n : Nat} {H : MoF} (h : HpOk n H) : ∀ k, k < n → leM (H 0) (H k) := by
  intro k
  induction k using Nat.strongRecOn with
  | ind k ih =>
    intro hk
    rcases Nat.eq_zero_or_pos k with e | e
    · rw [e]; exact leM.refl _
    · exact (ih (par k) (by unfold par; omega) (by unfold par; omega)).trans (h k e hk)
/-- Lists. -/
def atM (E : List Mo) : MoF := fun k => E.getD k ⟨0, 0, 0⟩
theorem atM_of {E : List Mo} {k : Nat} {x : Mo} (h : E[k]? = some x) : atM E k = x := by unfold atM; rw [List.getD_eq_getElem?_getD, h]; rfl
theorem atM_some {E : List Mo} {k : Nat} (h : k < E.length) : E[k]? = some (atM E k) := by unfold atM; rw [List.getD_eq_getElem?_getD, List.getElem?_eq_getElem h]; rfl
theorem atM_mem {E : List Mo} {k : Nat} (h : k < E.length) : atM E k ∈ E := List.mem_iff_getElem?.2 ⟨k, atM_some h⟩
theorem mem_atM {E : List Mo} {x : Mo} (h : x ∈ E) : ∃ k, k < E.length ∧ atM E k = x := by
  obtain ⟨k, hk⟩ := List.mem_iff_getElem?.1 h
  exact ⟨k, (List.getElem?_eq_some_iff.1 hk).1, atM_of hk⟩
def swL (E : List Mo) (i j : Nat) : List Mo := (E.set i (atM E j)).set j (atM E i)
theorem swL_len (E : List Mo) (i j : Nat) : (swL E i j).length = E.length := by unfold swL; rw [List.length_set, List.length_set]
theorem atM_set (E : List Mo) (i k : Nat) (x : Mo) (hi : i < E.length) : atM (E.set i x) k = if i = k then x else atM E k := by
  unfold atM
  simp only [List.getD_eq_getElem?_getD, List.getElem?_set]
  by_cases q : i = k
  · subst q; simp [hi]
  · simp [q]
theorem atM_sw (E : List Mo) (i j : Nat) (hi : i < E.length) (hj : j < E.length) : atM (swL E i j) = swH (atM E) i j := by
  funext k
  unfold swL swH
  rw [atM_set _ _ _ _ (by rw [List.length_set]; exact hj), atM_set _ _ _ _ hi]
  by_cases a : k = j
  · subst a
    rw [if_pos rfl]
    by_cases b : k = i
    · subst b; rw [if_pos rfl]
    · rw [if_neg b, if_pos rfl]
  · rw [if_neg (fun e => a e.symm)]
    by_cases b : k = i
    · subst b; rw [if_pos rfl, if_pos rfl]
    · rw [if_neg (fun e => b e.symm), if_neg b, if_neg a]
theorem swL_perm (E : List Mo) (i j : Nat) (hi : i < E.length) (hj : j < E.length) : (swL E i j).Perm E := by
  unfold swL atM
  rw [List.getD_eq_getElem?_getD, List.getD_eq_getElem?_getD, List.getElem?_eq_getElem hi, List.getElem?_eq_getElem hj]
  exact List.set_set_perm hi hj
end Go.Proofs.Ytofnnphpogpcdaa
