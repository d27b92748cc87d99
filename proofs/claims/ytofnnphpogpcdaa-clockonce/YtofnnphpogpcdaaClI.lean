/- A clock as a sorted list; New, Now, Next. -/
import Derived.Test.YtofnnphpogpcdaaClH
import Derived.Laws.EntriesVeiled
namespace Go.Proofs.Ytofnnphpogpcdaa
open Go.RowKit
set_option linter.unusedVariables false

abbrev Pr := Int × Int
/-- Which of two comes first: numbers and their moments. -/
def klt (p q : Pr) : Prop := p.2 < q.2 ∨ (p.2 = q.2 ∧ p.1 < q.1)
instance (p q : Pr) : Decidable (klt p q) := by unfold klt; infer_instance
theorem klt.trans {a b c : Pr} (h : klt a b) (k : klt b c) : klt a c := by unfold klt at *; omega
def keyM (x : Mo) : Pr := (x.i, x.t)
theorem leM_key {x y : Mo} : leM x y ↔ ¬ klt (keyM y) (keyM x) := by
  rw [leM_iff]; unfold klt keyM; simp only; omega
def insL (p : Pr) : List Pr → List Pr
  | [] => [p]
  | x :: l => if klt p x then p :: x :: l else x :: insL p l
theorem insL_perm (p : Pr) : ∀ l, (insL p l).Perm (p :: l)
  | [] => List.Perm.refl _
  | x :: l => by
    unfold insL
    split
    · exact List.Perm.refl _
    · exact (List.Perm.cons x (insL_perm p l)).trans (List.Perm.swap p x l)
theorem insL_sorted {p : Pr} : ∀ {l : List Pr}, l.Pairwise klt → (∀ q ∈ l, q.1 ≠ p.1) → (insL p l).Pairwise klt
  | [], _, _ => List.pairwise_singleton _ _
  | x :: l, h, hn => by
    obtain ⟨h1, h2⟩ := List.pairwise_cons.1 h
    unfold insL
    split
    · rename_i c
      refine List.pairwise_cons.2 ⟨fun q hq => ?_, h⟩
      rcases List.mem_cons.1 hq with e | e
      · rw [e]; exact c
      · exact c.trans (h1 q e)
    · rename_i c
      refine List.pairwise_cons.2 ⟨fun q hq => ?_, insL_sorted h2 (fun q hq => hn q (List.mem_cons_of_mem _ hq))⟩
      rcases List.mem_cons.1 ((insL_perm p l).mem_iff.1 hq) with e | e
      · rw [e]
        have := hn x (List.mem_cons_self ..)
        unfold klt at *; omega
      · exact h1 q e
def offL (id : Int) (l : List Pr) : List Pr := l.filter fun p => !(p.1 == id)
theorem mem_off {id : Int} {l : List Pr} {p : Pr} : p ∈ offL id l ↔ p ∈ l ∧ p.1 ≠ id := by unfold offL; simp [List.mem_filter]
theorem off_none {id : Int} {l : List Pr} (h : ∀ p ∈ l, p.1 ≠ id) : offL id l = l := List.filter_eq_self.2 fun p hp => by simpa using h p hp
/-- The moments in the queue, as a sorted list. -/
structure RelL (E : List Mo) (L : List Pr) : Prop where
  p : (E.map keyM).Perm L
  s : L.Pairwise klt
  d : (L.map Prod.fst).Nodup
theorem RelL.perm {E D : List Mo} {L : List Pr} (h : RelL E L) (k : D.Perm E) : RelL D L := ⟨(k.map keyM).trans h.p, h.s, h.d⟩
theorem RelL.len {E : List Mo} {L : List Pr} (h : RelL E L) : L.length = E.length := by rw [← h.p.length_eq, List.length_map]
theorem RelL.mem {E : List Mo} {L : List Pr} (h : RelL E L) {p : Pr} : p ∈ L ↔ ∃ x ∈ E, keyM x = p := by rw [← h.p.mem_iff, List.mem_map]
theorem off_sorted {id : Int} {L : List Pr} (h : L.Pairwise klt) : (offL id L).Pairwise klt := h.filter _
theorem off_nodup {id : Int} {L : List Pr} (h : (L.map Prod.fst).Nodup) : ((offL id L).map Prod.fst).Nodup := List.Nodup.sublist (List.Sublist.map _ List.filter_sublist) h
theorem ins_nodup {p : Pr} {L : List Pr} (h : (L.map Prod.fst).Nodup) (hn : ∀ q ∈ L, q.1 ≠ p.1) : ((insL p L).map Prod.fst).Nodup := by
  refine ((insL_perm p L).map Prod.fst).nodup_iff.2 ?_
  rw [List.map_cons]
  refine List.nodup_cons.2 ⟨fun m => ?_, h⟩
  obtain ⟨q, hq, e⟩ := List.mem_map.1 m
  exact hn q hq e
/-- One more. -/
theorem RelL.push {E : List Mo} {L : List Pr} (h : RelL E L) (x : Mo) (hn : ∀ q ∈ L, q.1 ≠ x.i) : RelL (E ++ [x]) (insL (keyM x) L) := by
  refine ⟨?_, insL_sorted h.s hn, ins_nodup h.d hn⟩
  rw [List.map_append]
  refine (List.perm_append_comm.trans ?_).trans (insL_perm _ _).symm
  exact List.Perm.cons _ h.p
/-- One less. -/
theorem RelL.take {D E : List Mo} {L : List Pr} {x : Mo} (h : RelL E L) (k : (D ++ [x]).Perm E) : RelL D (offL x.i L) ∧ keyM x ∈ L ∧ (∀ q ∈ offL x.i L, q.1 ≠ x.i) := by
  have p1 := (k.map keyM).trans h.p
  rw [List.map_append] at p1
  have p2 : (keyM x :: D.map keyM).Perm L := (List.perm_append_comm (l₁ := [keyM x])).trans p1
  have nd : ((keyM x :: D.map keyM).map Prod.fst).Nodup := (p2.map Prod.fst).nodup_iff.2 h.d
  rw [List.map_cons] at nd
  obtain ⟨n1, n2⟩ := List.nodup_cons.1 nd
  have hne : ∀ q ∈ D.map keyM, q.1 ≠ x.i := fun q hq e => n1 (List.mem_map.2 ⟨q, hq, e⟩)
  have p3 := p2.filter fun p => !(p.1 == x.i)
  rw [List.filter_cons, if_neg (by simp [keyM])] at p3
  have e3 := off_none hne
  unfold offL at e3
  rw [e3] at p3
  exact ⟨⟨p3, off_sorted h.s, off_nodup h.d⟩, p2.mem_iff.1 (List.mem_cons_self ..), fun q hq => (mem_off.1 hq).2⟩
theorem set_perm (E : List Mo) (i : Nat) (x : Mo) (hi : i < E.length) : (E.set i x).Perm (x :: E.eraseIdx i) := by
  rw [List.set_eq_take_append_cons_drop, if_pos hi, List.eraseIdx_eq_take_drop_succ]
  exact List.perm_middle
theorem get_perm (E : List Mo) (i : Nat) (hi : i < E.length) : (atM E i :: E.eraseIdx i).Perm E := by
  have e : E = E.set i (atM E i) := by
    refine List.ext_getElem? fun k => ?_
    rw [List.getElem?_set]
    by_cases a : i = k
    · subst a
      rw [if_pos rfl, if_pos hi, atM_some hi]
    · rw [if_neg a]
  have := set_perm E i (atM E i) hi
  rw [← e] at this
  exact this.symm
/-- The moment of one turned. -/
theorem RelL.turn {E : List Mo} {L : List Pr} (h : RelL E L) {i : Nat} (hi : i < E.length) (x : Mo) (hx : x.i = (atM E i).i) : RelL (E.set i x) (insL (keyM x) (offL x.i L)) := by
  have k : (E.eraseIdx i ++ [atM E i]).Perm E := List.perm_append_comm.trans (get_perm E i hi)
  obtain ⟨r, _, n⟩ := h.take k
  rw [← hx] at r n
  have r2 := r.push x n
  exact r2.perm ((set_perm E i x hi).trans (List.perm_append_comm (l₁ := [x])))
/-- The first is the least. -/
theorem RelL.head {E : List Mo} {L : List Pr} (h : RelL E L) (hp : HpOk E.length (atM E)) (h0 : 0 < E.length) : ∃ t, L = keyM (atM E 0) :: t := by
  cases L with
  | nil => have := h.len; simp at this; omega
  | cons p t =>
    refine ⟨t, ?_⟩
    congr 1
    obtain ⟨x, hx, e⟩ := h.mem.1 (List.mem_cons_self (a := p) (l := t))
    obtain ⟨k, hk, ek⟩ := mem_atM hx
    have l1 := hp.least k hk
    rw [ek, leM_key, e] at l1
    have m : keyM (atM E 0) ∈ p :: t := h.mem.2 ⟨_, atM_mem h0, rfl⟩
    rcases List.mem_cons.1 m with q | q
    · exact q.symm
    · exact absurd ((List.pairwise_cons.1 h.s).1 _ q) l1
theorem off_head {p : Pr} {t : List Pr} (h : ((p :: t).map Prod.fst).Nodup) : offL p.1 (p :: t) = t := by
  unfold offL
  rw [List.filter_cons, if_neg (by simp)]
  rw [List.map_cons] at h
  exact off_none fun q hq e => (List.nodup_cons.1 h).1 (List.mem_map.2 ⟨q, hq, e⟩)
end Go.Proofs.Ytofnnphpogpcdaa
