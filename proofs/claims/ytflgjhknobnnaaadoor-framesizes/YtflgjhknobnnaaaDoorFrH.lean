/- Digits, and lists of them: what is read of them. -/
import Derived.Test.YtflgjhknobnnaaaDoorFrA
import Derived.Test.YtflgjhknobnnaaaDoorFsC
namespace Go.Proofs.YtflgjhknobnnaaaDoor
open Go.RowKit
set_option linter.unusedVariables false

theorem fold_add (X : List UInt8) : ∀ a c u : Nat, X.foldl (stepV 10) (some a) = some u → X.foldl (stepV 10) (some (a + c)) = some (u + c * 10 ^ X.length) := by
  induction X with
  | nil =>
    intro a c u h
    have : a = u := by simpa using h
    subst this
    simp
  | cons b l ih =>
    intro a c u h
    rw [List.foldl_cons] at h ⊢
    by_cases hb : dgN b < 10
    · have e1 : stepV 10 (some a) b = some (a * 10 + dgN b) := by unfold stepV; simp [hb]
      have e2 : stepV 10 (some (a + c)) b = some ((a * 10 + dgN b) + c * 10) := by
        unfold stepV; simp [hb]; omega
      rw [e1] at h
      rw [e2, ih _ _ _ h, List.length_cons, Nat.pow_succ, Nat.mul_comm (10 ^ l.length) 10, Nat.mul_assoc]
    · have e1 : stepV 10 (some a) b = none := by unfold stepV; simp [hb]
      rw [e1, fold_none] at h
      cases h
theorem vN_cons (d : UInt8) (X : List UInt8) (v : Nat) (h : vN 10 X = some v) (hd : dgN d < 10) : vN 10 (d :: X) = some (v + dgN d * 10 ^ X.length) := by
  have e : vN 10 (d :: X) = X.foldl (stepV 10) (stepV 10 (some 0) d) := rfl
  have e1 : stepV 10 (some 0) d = some (0 + dgN d) := by unfold stepV; simp [hd]
  rw [e, e1]
  exact fold_add X 0 (dgN d) v h
theorem dgN_ofNat (k : Nat) (h : k < 10) : dgN (UInt8.ofNat (48 + k)) = k ∧ (UInt8.ofNat (48 + k)).toNat = 48 + k := by
  have e : (UInt8.ofNat (48 + k)).toNat = 48 + k := by simp; omega
  refine ⟨?_, e⟩
  unfold dgN dgI
  rw [e, if_pos (by omega)]
  omega

/-- The digits X tell n. -/
structure Dgs (X : List UInt8) (n : Nat) : Prop where
  ne : 0 < X.length
  len : X.length ≤ 18
  dig : ∀ b ∈ X, 48 ≤ b.toNat ∧ b.toNat ≤ 57
  val : vN 10 X = some n
theorem Dgs.num {X : List UInt8} {n : Nat} (h : Dgs X n) : numI 10 18 ⟨X.toArray⟩ = n ∧ numB 10 18 ⟨X.toArray⟩ = true := by
  refine num_ok ?_ h.val
  have e : (⟨X.toArray⟩ : ByteArray).size = X.length := rfl
  rw [e]
  have := h.ne
  have := h.len
  omega
theorem Dgs.nought {X : List UInt8} {n : Nat} (h : Dgs X n) (hl : X.length ≤ 17) : Dgs (48 :: X) n := by
  refine ⟨by simp, by simp; omega, ?_, ?_⟩
  · intro b hb
    rcases List.mem_cons.1 hb with rfl | hb
    · decide
    · exact h.dig b hb
  · have k := vN_cons 48 X n h.val (by decide)
    rw [k]
    have : dgN 48 = 0 := by decide
    rw [this]; simp
theorem Dgs.blk {X : List UInt8} {n : Nat} (h : Dgs X n) : ∀ b ∈ X, blk b = false ∧ b ≠ 44 := by
  intro b hb
  have k := h.dig b hb
  constructor
  · unfold Go.Proofs.YtflgjhknobnnaaaDoor.blk
    have e1 : b ≠ 32 := by rintro rfl; revert k; decide
    have e2 : b ≠ 9 := by rintro rfl; revert k; decide
    simp [e1, e2]
  · rintro rfl; revert k; decide
theorem Dgs.nf {X : List UInt8} {n : Nat} (h : Dgs X n) : NF X := fun b hb => (h.blk b (List.mem_of_mem_head? hb)).1
theorem Dgs.nl {X : List UInt8} {n : Nat} (h : Dgs X n) : NL X := fun b hb => (h.blk b (List.mem_of_getLast? hb)).1
theorem trim_self {X : List UInt8} (h1 : NF X) (h2 : NL X) : trimP X = X := by
  have k := trim_around [] X [] (fun b hb => by cases hb) (fun b hb => by cases hb) h1 h2
  simpa using k
theorem trim_none {q : List UInt8} (hq : ∀ b ∈ q, blk b = true) : trimP q = [] := by
  have k := trim_around q [] [] hq (fun b hb => by cases hb) (fun b hb => by simp at hb) (fun b hb => by simp at hb)
  simpa using k
theorem cuts_app : ∀ (x l acc : List UInt8), (∀ b ∈ x, b ≠ 44) → cuts acc (x ++ l) = cuts (acc ++ x) l
  | [], l, acc, _ => by simp
  | b :: x, l, acc, h => by
    rw [List.cons_append, cuts, if_neg (h b (.head _)), cuts_app x l _ (fun c hc => h c (.tail _ hc))]
    simp
def keepL (ps : List (List UInt8)) : List (List UInt8) := (ps.map trimP).filter fun p => !decide (p.length = 0)
theorem keepL_cons (p : List UInt8) (ps : List (List UInt8)) : keepL (p :: ps) = (if (trimP p).length = 0 then [] else [trimP p]) ++ keepL ps := by
  unfold keepL
  rw [List.map_cons, List.filter_cons]
  by_cases h : (trimP p).length = 0
  · rw [if_pos h, decide_eq_true h]; rfl
  · rw [if_neg h, decide_eq_false h]; rfl
theorem keepT_data : ∀ ps : List ByteArray, (keepT ps).map (·.data.toList) = keepL (ps.map (·.data.toList))
  | [] => rfl
  | p :: ps => by
    have e : keepT (p :: ps) = (if (trimT p).size = 0 then [] else [trimT p]) ++ keepT ps := by
      unfold keepT
      rw [List.map_cons, List.filter_cons]
      by_cases h : (trimT p).size = 0
      · rw [if_pos h, decide_eq_true h]; rfl
      · rw [if_neg h, decide_eq_false h]; rfl
    rw [e, List.map_append, keepT_data ps, List.map_cons, keepL_cons]
    congr 1
    have ez : (trimT p).size = (trimP p.data.toList).length := rfl
    rw [ez]
    split
    · rfl
    · rfl
theorem splT_data (s : ByteArray) : (splT s).map (·.data.toList) = keepL (cuts [] s.data.toList) := by
  unfold splT
  rw [keepT_data, pieces_cuts]
theorem spl_eq {s : ByteArray} {xs : List ByteArray} (h : keepL (cuts [] s.data.toList) = xs.map (·.data.toList)) : splT s = xs := map_data_inj (by rw [splT_data, h])
theorem Dgs.spl {X : List UInt8} {n : Nat} (h : Dgs X n) : splT ⟨X.toArray⟩ = [⟨X.toArray⟩] := by
  refine spl_eq ?_
  have e : (⟨X.toArray⟩ : ByteArray).data.toList = X := rfl
  have e2 : cuts [] X = [X] := by
    have k := cuts_app X [] [] (fun b hb => (h.blk b hb).2)
    rw [List.append_nil, List.nil_append] at k
    rw [k]; rfl
  rw [e, e2, keepL_cons, trim_self h.nf h.nl, if_neg (by have := h.ne; omega)]
  rfl
/-- " , " and the word, k times. -/
def repW (w : List UInt8) : Nat → List UInt8
  | 0 => []
  | k + 1 => repW w k ++ ([32, 44, 32] ++ w)
theorem repW_front (w : List UInt8) : ∀ k, repW w (k + 1) = ([32, 44, 32] ++ w) ++ repW w k
  | 0 => by simp [repW]
  | k + 1 => by
    have e1 : repW w (k + 1 + 1) = repW w (k + 1) ++ ([32, 44, 32] ++ w) := rfl
    have e2 : repW w (k + 1) = repW w k ++ ([32, 44, 32] ++ w) := rfl
    rw [e1, repW_front w k, List.append_assoc, ← e2, repW_front w k]
theorem repW_len (w : List UInt8) : ∀ k, (repW w k).length = k * (w.length + 3)
  | 0 => by simp [repW]
  | k + 1 => by rw [repW, List.length_append, repW_len w k, Nat.add_mul]; simp
theorem keep_rep {X : List UInt8} {n : Nat} (h : Dgs X n) : ∀ k, keepL (cuts [] (repW X k)) = List.replicate k X ∧ keepL (cuts (32 :: X) (repW X k)) = List.replicate (k + 1) X
  | 0 => by
    refine ⟨rfl, ?_⟩
    have e : trimP (32 :: X) = X := by
      have k := trim_around [32] X [] (fun b hb => by rw [List.mem_singleton.1 hb]; decide) (fun b hb => by cases hb) h.nf h.nl
      simpa using k
    show keepL [32 :: X] = _
    rw [keepL_cons, e, if_neg (by have := h.ne; omega)]
    rfl
  | k + 1 => by
    have ih := (keep_rep h k).2
    have st : ∀ acc : List UInt8, cuts acc (repW X (k + 1)) = (acc ++ [32]) :: cuts (32 :: X) (repW X k) := fun acc => by
      rw [repW_front]
      show cuts acc (32 :: 44 :: 32 :: (X ++ repW X k)) = _
      rw [cuts, if_neg (by decide), cuts, if_pos rfl, cuts, if_neg (by decide), cuts_app X _ _ (fun b hb => (h.blk b hb).2)]
      rfl
    refine ⟨?_, ?_⟩
    · rw [st, keepL_cons, trim_none (fun b hb => by simp at hb; rw [hb]; decide), if_pos List.length_nil, ih]
      rfl
    · have e : trimP (32 :: X ++ [32]) = X := by
        have k := trim_around [32] X [32] (fun b hb => by rw [List.mem_singleton.1 hb]; decide) (fun b hb => by rw [List.mem_singleton.1 hb]; decide) h.nf h.nl
        simpa using k
      rw [st, keepL_cons, e, if_neg (by have := h.ne; omega), ih]
      rfl
theorem spl_rep {X : List UInt8} {n : Nat} (h : Dgs X n) (k : Nat) : splT ⟨(repW X k).toArray⟩ = List.replicate k ⟨X.toArray⟩ := by
  refine spl_eq ?_
  have e : (⟨(repW X k).toArray⟩ : ByteArray).data.toList = repW X k := rfl
  rw [e, (keep_rep h k).1, List.map_replicate]
theorem sameN_rep {X : List UInt8} {n : Nat} (h : Dgs X n) : ∀ k, sameN (n : Int) (List.replicate k ⟨X.toArray⟩) = true := by
  intro k
  unfold sameN
  rw [List.all_eq_true]
  intro x hx
  rw [(List.mem_replicate.1 hx).2, h.num.1, h.num.2]
  simp
theorem lenL_rep {X : List UInt8} {n : Nat} (h : Dgs X n) (k : Nat) : lenL (List.replicate (k + 1) ⟨X.toArray⟩) = ((n : Int), true) := by
  rw [List.replicate_succ]
  unfold lenL
  simp only [h.num.1, h.num.2, sameN_rep h k, Bool.and_self, if_true]
end Go.Proofs.YtflgjhknobnnaaaDoor
