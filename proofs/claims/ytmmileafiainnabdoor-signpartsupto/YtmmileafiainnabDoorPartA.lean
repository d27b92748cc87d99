/- The parts of a list, put together again: plain lemmas. -/
import Derived.Test.YtmmileafiainnabDoorCutA
namespace Go.Proofs.YtmmileafiainnabDoor
open Go.RowKit
set_option linter.unusedVariables false

def keepL (ps : List (List UInt8)) : List (List UInt8) := (ps.map trimP).filter fun p => !decide (p.length = 0)
theorem keep_data (ps : List ByteArray) : (keepT ps).map (·.data.toList) = keepL (ps.map (·.data.toList)) := by
  induction ps with
  | nil => rfl
  | cons p ps ih =>
    have e : (trimT p).data.toList = trimP p.data.toList := by simp [trimT]
    have e2 : (trimT p).size = (trimP p.data.toList).length := by rw [← e]; rfl
    unfold keepT keepL at ih ⊢
    simp only [List.map_cons, List.filter_cons]
    rw [e2]
    split
    · rw [List.map_cons, ih, e]
    · exact ih
def Good (q : List UInt8) : Prop := NF q ∧ NL q ∧ q ≠ [] ∧ 44 ∉ q
theorem cuts_no : ∀ (l acc : List UInt8), 44 ∉ acc → ∀ p ∈ cuts acc l, 44 ∉ p
  | [], acc, h, p, hp => by
    rw [cuts, List.mem_singleton] at hp; rw [hp]; exact h
  | b :: l, acc, h, p, hp => by
    rw [cuts] at hp
    split at hp
    · cases hp with
      | head => exact h
      | tail _ hp => exact cuts_no l [] (by simp) p hp
    · rename_i hb
      exact cuts_no l (acc ++ [b]) (fun hm => by
        rcases List.mem_append.1 hm with hm | hm
        · exact h hm
        · exact hb (List.mem_singleton.1 hm).symm) p hp
theorem dw_mem {b : UInt8} : ∀ {l : List UInt8}, b ∈ l.dropWhile blk → b ∈ l
  | [], h => h
  | c :: l, h => by
    rw [List.dropWhile_cons] at h
    split at h
    · exact .tail _ (dw_mem h)
    · exact h
theorem trim_mem {b : UInt8} {l : List UInt8} (h : b ∈ trimP l) : b ∈ l := by
  rw [trimP_eq] at h
  exact List.mem_reverse.1 (dw_mem (List.mem_reverse.1 (dw_mem h)))
theorem keep_good (ps : List (List UInt8)) (h : ∀ p ∈ ps, 44 ∉ p) : ∀ q ∈ keepL ps, Good q := by
  intro q hq
  unfold keepL at hq
  obtain ⟨hm, hn⟩ := List.mem_filter.1 hq
  obtain ⟨p, hp, rfl⟩ := List.mem_map.1 hm
  refine ⟨trim_front p, trim_last p, fun e => ?_, fun e => h p hp (trim_mem e)⟩
  rw [e] at hn; simp at hn
def tot (ps : List (List UInt8)) : Nat := (ps.map List.length).sum
theorem tot_cons (p : List UInt8) (ps : List (List UInt8)) : tot (p :: ps) = p.length + tot ps := by simp [tot]
theorem cuts_tot : ∀ (l acc : List UInt8), tot (cuts acc l) ≤ acc.length + l.length
  | [], acc => by simp [cuts, tot]
  | b :: l, acc => by
    rw [cuts]
    split
    · rw [tot_cons]; have := cuts_tot l []; simp at this ⊢; omega
    · have := cuts_tot l (acc ++ [b]); simp at this ⊢; omega
theorem keep_tot : ∀ ps : List (List UInt8), tot (keepL ps) ≤ tot ps
  | [] => Nat.le_refl _
  | p :: ps => by
    have ih := keep_tot ps
    have hl := trimP_len p
    unfold keepL at ih ⊢
    simp only [List.map_cons, List.filter_cons]
    split
    · rw [tot_cons, tot_cons]; omega
    · rw [tot_cons]; omega
/-- The parts, each with a tab, two commas and a blank behind. -/
def tailJ : List (List UInt8) → List UInt8
  | [] => []
  | q :: qs => q ++ [9, 44, 44, 32] ++ tailJ qs
theorem cuts_app : ∀ (p acc l : List UInt8), 44 ∉ p → cuts acc (p ++ l) = cuts (acc ++ p) l
  | [], acc, l, _ => by simp
  | b :: p, acc, l, h => by
    have hb : b ≠ 44 := fun e => h (by rw [e]; exact .head _)
    rw [List.cons_append, cuts, if_neg hb, cuts_app p _ l (fun hm => h (.tail _ hm))]
    simp
theorem keepL_drop (p : List UInt8) (ps : List (List UInt8)) (h : trimP p = []) : keepL (p :: ps) = keepL ps := by
  unfold keepL; simp [h]
theorem keepL_take (p q : List UInt8) (ps : List (List UInt8)) (h : trimP p = q) (hq : q ≠ []) : keepL (p :: ps) = q :: keepL ps := by
  unfold keepL; simp [h, hq]
theorem keep_tail : ∀ qs : List (List UInt8), (∀ q ∈ qs, Good q) → keepL (cuts [32] (tailJ qs)) = qs
  | [], _ => by decide
  | q :: qs, h => by
    obtain ⟨h1, h2, h3, h4⟩ := h q (.head _)
    have ih := keep_tail qs fun x hx => h x (.tail _ hx)
    rw [tailJ, List.append_assoc, cuts_app q _ _ h4]
    show keepL (cuts ([32] ++ q) (9 :: 44 :: 44 :: 32 :: tailJ qs)) = _
    rw [cuts, if_neg (by decide), cuts, if_pos rfl, cuts, if_pos rfl, cuts, if_neg (by decide)]
    rw [keepL_take _ q _ (trim_around [32] q [9] (by decide) (by decide) h1 h2) h3, keepL_drop _ _ rfl]
    show q :: keepL (cuts [32] (tailJ qs)) = _
    rw [ih]
theorem tailJ_len : ∀ qs : List (List UInt8), (tailJ qs).length = tot qs + 4 * qs.length
  | [] => rfl
  | q :: qs => by rw [tailJ, tot_cons]; have := tailJ_len qs; simp; omega
theorem tailJ_app : ∀ a b : List (List UInt8), tailJ (a ++ b) = tailJ a ++ tailJ b
  | [], b => rfl
  | q :: a, b => by rw [List.cons_append, tailJ, tailJ, tailJ_app a b]; simp

/-- The joined text of parts. -/
def joinJ (Q : List ByteArray) : List UInt8 := [32, 44, 32] ++ tailJ (Q.map (·.data.toList))
theorem join_keep (Q : List ByteArray) (h : ∀ q ∈ Q, Good q.data.toList) (x : ByteArray) (hx : x.data.toList = joinJ Q) : keepT (pieces x) = Q := by
  refine map_data_inj ?_
  rw [keep_data, pieces_cuts, hx]
  unfold joinJ
  show keepL (cuts [] (32 :: 44 :: 32 :: tailJ _)) = _
  rw [cuts, if_neg (by decide), cuts, if_pos rfl, cuts, if_neg (by decide), keepL_drop _ _ rfl]
  exact keep_tail _ (fun q hq => by obtain ⟨p, hp, rfl⟩ := List.mem_map.1 hq; exact h p hp)
theorem join_next (Q : List ByteArray) (k : Nat) (h : k < Q.length) : joinJ (Q.take (k + 1)) = joinJ (Q.take k) ++ Q[k].data.toList ++ [9, 44, 44, 32] := by
  unfold joinJ
  rw [List.take_succ_eq_append_getElem h, List.map_append, tailJ_app]
  simp [tailJ]
theorem join_len (Q : List ByteArray) (k : Nat) : (joinJ (Q.take k)).length ≤ (joinJ Q).length := by
  unfold joinJ
  conv => rhs; rw [← List.take_append_drop k Q, List.map_append, tailJ_app]
  simp
theorem split_good (s : ByteArray) : ∀ q ∈ keepT (pieces s), Good q.data.toList := by
  intro q hq
  have h : q.data.toList ∈ (keepT (pieces s)).map (·.data.toList) := List.mem_map.2 ⟨q, hq, rfl⟩
  rw [keep_data, pieces_cuts] at h
  exact keep_good _ (cuts_no _ _ (by simp)) _ h
theorem split_join_len (s : ByteArray) : (joinJ (keepT (pieces s))).length ≤ 3 + s.size + 4 * (s.size + 2) := by
  unfold joinJ
  rw [List.length_append, tailJ_len, List.length_map, keep_data, pieces_cuts]
  have h1 := keep_tot (cuts [] s.data.toList)
  have h2 := cuts_tot s.data.toList []
  have h3 := Nat.le_trans (keepT_len (pieces s)) (pieces_len s)
  have h4 : s.data.toList.length = s.size := rfl
  rw [h4] at h2
  simp only [List.length_nil, Nat.zero_add, List.length_cons] at h2 ⊢
  omega
theorem good_trim {q : ByteArray} (h : Good q.data.toList) : trimT q = q := by
  refine bytes_eq ?_
  unfold trimT
  exact trim_same _ h.1 h.2.1
theorem good_size {q : ByteArray} (h : Good q.data.toList) : ¬ q.size = 0 := by
  intro e
  exact h.2.2.1 (List.eq_nil_of_length_eq_zero e)
theorem good_no {q : ByteArray} (h : Good q.data.toList) (j : Nat) (hj : j < q.size) : ((q[j].toNat : Int) == 44) = false := by
  refine beq_eq_false_iff_ne.2 fun e => ?_
  have e2 : q[j] = 44 := UInt8.toNat_inj.1 (show q[j].toNat = 44 by omega)
  refine h.2.2.2 ?_
  rw [← e2]
  exact List.getElem_mem (l := q.data.toList) hj
end Go.Proofs.YtmmileafiainnabDoor
