/- The document's robin (plain): the next flow is the one whose turn is nearest. -/
import Derived.Test.YtejjljhmlgjlhaaRbS
namespace Go.Proofs.Ytejjljhmlgjlhaa
open Go.RowKit
set_option linter.unusedVariables false

/-- Behind a grant to c the others are by so much nearer; c itself is the farthest. -/
theorem away_shift {la c d : Int} (h : awayK la c < awayK la d) : awayK c d = awayK la d - awayK la c - 1 := by
  unfold awayK at *; omega
theorem away_self (c : Int) : awayK c c = 18446744073709551615 := by unfold awayK; omega
theorem away_far {c d : Int} (hc : InR c) (hd : InR d) (h : d ≠ c) : awayK c d < 18446744073709551615 := by
  unfold awayK InR at *; omega
/-- What the document's list and the queue have to do with one another. -/
structure Inv (la : Int) (F qu : List Fl) : Prop where
  m : ∀ f, f ∈ qu ↔ 0 < f.2 ∧ f ∈ F
  s : qu.Pairwise (Klt la)
  d : F.Pairwise (fun a b => a.1 ≠ b.1)
  r : ∀ f ∈ F, InR f.1
/-- The place p holds one that wants something, and no other one is nearer. -/
def Pck (la : Int) (F : List Fl) (p : Nat) : Prop := p < F.length ∧ 0 < (F.getD p (0, 0)).2 ∧ ∀ j, j < F.length → 0 < (F.getD j (0, 0)).2 → awayK la (F.getD p (0, 0)).1 ≤ awayK la (F.getD j (0, 0)).1
theorem getD_mem {F : List Fl} {p : Nat} (h : p < F.length) : F.getD p (0, 0) ∈ F := by
  rw [List.getD_eq_getElem?_getD, List.getElem?_eq_getElem h]; exact List.getElem_mem _
theorem mem_getD {F : List Fl} {f : Fl} (h : f ∈ F) : ∃ j, j < F.length ∧ F.getD j (0, 0) = f := by
  obtain ⟨j, hj, e⟩ := List.mem_iff_getElem.1 h
  exact ⟨j, hj, by rw [List.getD_eq_getElem?_getD, List.getElem?_eq_getElem hj]; exact e⟩
theorem pck_head {la : Int} {F : List Fl} {h : Fl} {t : List Fl} {p : Nat} (i : Inv la F (h :: t)) (k : Pck la F p) : F.getD p (0, 0) = h := by
  have hm := (i.m (F.getD p (0, 0))).2 ⟨k.2.1, getD_mem k.1⟩
  rcases List.mem_cons.1 hm with e | e
  · exact e
  · obtain ⟨s1, _⟩ := List.pairwise_cons.1 i.s
    have x := s1 _ e
    obtain ⟨hh1, hh2⟩ := (i.m h).1 (List.mem_cons_self ..)
    obtain ⟨j, hj, ej⟩ := mem_getD hh2
    have y := k.2.2 j hj (by rw [ej]; exact hh1)
    rw [ej] at y
    unfold Klt at x
    omega
theorem pck_none {la : Int} {F : List Fl} (i : Inv la F []) : ∀ j, j < F.length → (F.getD j (0, 0)).2 ≤ 0 := by
  intro j hj
  rcases Int.lt_or_le 0 (F.getD j (0, 0)).2 with c | c
  · have := (i.m (F.getD j (0, 0))).2 ⟨c, getD_mem hj⟩
    cases this
  · exact c
/-- The list with a grant taken off. -/
def take1 (F : List Fl) (p : Nat) (n : Int) : List Fl := F.set p ((F.getD p (0, 0)).1, (F.getD p (0, 0)).2 - n)
theorem dist_at {F : List Fl} (h : F.Pairwise (fun a b => a.1 ≠ b.1)) {i j : Nat} (hi : i < F.length) (hj : j < F.length) (e : (F.getD i (0, 0)).1 = (F.getD j (0, 0)).1) : i = j := by
  rw [List.pairwise_iff_getElem] at h
  rw [List.getD_eq_getElem?_getD, List.getD_eq_getElem?_getD, List.getElem?_eq_getElem hi, List.getElem?_eq_getElem hj] at e
  rcases Nat.lt_trichotomy i j with c | c | c
  · exact absurd e (h i j hi hj c)
  · exact c
  · exact absurd e.symm (h j i hj hi c)
theorem take1_dist {F : List Fl} (h : F.Pairwise (fun a b => a.1 ≠ b.1)) (p : Nat) (hp : p < F.length) (n : Int) : (take1 F p n).Pairwise (fun a b => a.1 ≠ b.1) := by
  rw [List.pairwise_iff_getElem]
  intro i j hi hj hij
  have hi' : i < F.length := by unfold take1 at hi; rwa [List.length_set] at hi
  have hj' : j < F.length := by unfold take1 at hj; rwa [List.length_set] at hj
  have e : ∀ k (hk : k < (take1 F p n).length), k < F.length → ((take1 F p n)[k]).1 = (F.getD k (0, 0)).1 := fun k hk hk' => by
    have e1 : (take1 F p n)[k] = (take1 F p n).getD k (0, 0) := by rw [List.getD_eq_getElem?_getD, List.getElem?_eq_getElem hk]; rfl
    rw [e1]
    unfold take1
    rw [getD_set _ _ _ _ hp]
    split
    · rename_i q; subst q; rfl
    · rfl
  rw [e i hi hi', e j hj hj']
  intro q
  exact absurd (dist_at h hi' hj' q) (by omega)
theorem inv_step {la : Int} {F : List Fl} {h : Fl} {t : List Fl} {p : Nat} (i : Inv la F (h :: t)) (hp : p < F.length) (e : F.getD p (0, 0) = h) : Inv h.1 (take1 F p (min h.2 64)) (nxt h t) := by
  obtain ⟨s1, s2⟩ := List.pairwise_cons.1 i.s
  obtain ⟨hh1, hh2⟩ := (i.m h).1 (List.mem_cons_self ..)
  have hT : ∀ f, f ∈ t ↔ 0 < f.2 ∧ f ∈ F ∧ f.1 ≠ h.1 := fun f => by
    constructor
    · intro q
      obtain ⟨q1, q2⟩ := (i.m f).1 (List.mem_cons_of_mem _ q)
      refine ⟨q1, q2, fun ec => ?_⟩
      have x := s1 f q
      unfold Klt at x
      rw [ec] at x
      omega
    · rintro ⟨q1, q2, q3⟩
      rcases List.mem_cons.1 ((i.m f).2 ⟨q1, q2⟩) with r | r
      · exact absurd (by rw [r]) q3
      · exact r
  have hM : ∀ f, f ∈ take1 F p (min h.2 64) ↔ f = (h.1, h.2 - min h.2 64) ∨ (f ∈ F ∧ f.1 ≠ h.1) := fun f => by
    have hl : (take1 F p (min h.2 64)).length = F.length := by unfold take1; rw [List.length_set]
    constructor
    · intro q
      obtain ⟨j, hj, ej⟩ := mem_getD q
      rw [hl] at hj
      unfold take1 at ej
      rw [getD_set _ _ _ _ hp, e] at ej
      by_cases c : p = j
      · rw [if_pos c] at ej; exact .inl ej.symm
      · rw [if_neg c] at ej
        refine .inr ⟨by rw [← ej]; exact getD_mem hj, fun ec => c ?_⟩
        exact dist_at i.d hp hj (by rw [e, ej]; exact ec.symm)
    · rintro (q | ⟨q1, q2⟩)
      · have := getD_mem (F := take1 F p (min h.2 64)) (p := p) (by rw [hl]; exact hp)
        unfold take1 at this
        rw [getD_set _ _ _ _ hp, if_pos rfl, e] at this
        rw [q]; unfold take1; rw [e]; exact this
      · obtain ⟨j, hj, ej⟩ := mem_getD q1
        have := getD_mem (F := take1 F p (min h.2 64)) (p := j) (by rw [hl]; exact hj)
        unfold take1 at this
        rw [getD_set _ _ _ _ hp, if_neg (fun c => by subst c; rw [e] at ej; exact q2 (by rw [ej])), ej] at this
        exact this
  have hIR : ∀ f ∈ F, InR f.1 := i.r
  refine ⟨fun f => ?_, ?_, take1_dist i.d p hp _, fun f q => ?_⟩
  · rw [hM f]
    unfold nxt
    by_cases c : min h.2 64 < h.2
    · rw [if_pos c, List.mem_append, hT f, List.mem_singleton]
      constructor
      · rintro (⟨q1, q2, q3⟩ | q)
        · exact ⟨q1, .inr ⟨q2, q3⟩⟩
        · exact ⟨by rw [q]; show 0 < h.2 - min h.2 64; omega, .inl q⟩
      · rintro ⟨q1, q | ⟨q2, q3⟩⟩
        · exact .inr q
        · exact .inl ⟨q1, q2, q3⟩
    · rw [if_neg c, hT f]
      constructor
      · rintro ⟨q1, q2, q3⟩; exact ⟨q1, .inr ⟨q2, q3⟩⟩
      · rintro ⟨q1, q | ⟨q2, q3⟩⟩
        · rw [q] at q1
          have q1' : 0 < h.2 - min h.2 64 := q1
          omega
        · exact ⟨q1, q2, q3⟩
  · have hP : t.Pairwise (Klt h.1) := by
      rw [List.pairwise_iff_getElem] at s2 ⊢
      intro a b ha hb hab
      have x := s2 a b ha hb hab
      have ya := s1 _ (List.getElem_mem ha)
      have yb := s1 _ (List.getElem_mem hb)
      unfold Klt at *
      rw [away_shift ya, away_shift yb]
      omega
    unfold nxt
    split
    · rw [List.pairwise_append]
      refine ⟨hP, List.pairwise_singleton _ _, fun a ha b hb => ?_⟩
      have eb : b = (h.1, h.2 - min h.2 64) := by simpa using hb
      rw [eb]
      show awayK h.1 a.1 < awayK h.1 h.1
      rw [away_self]
      obtain ⟨q1, q2, q3⟩ := (hT a).1 ha
      exact away_far (hIR h hh2) (hIR a q2) q3
    · exact hP
  · rcases (hM f).1 q with r | r
    · rw [r]; exact hIR h hh2
    · exact hIR f r.1
end Go.Proofs.Ytejjljhmlgjlhaa
