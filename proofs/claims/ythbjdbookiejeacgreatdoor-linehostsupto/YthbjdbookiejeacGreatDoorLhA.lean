/- Hosts, plain: what the reference's Host answers is what Host answers. -/
import Derived.Test.YthbjdbookiejeacGreatDoorLnG
namespace Go.Proofs.YthbjdbookiejeacGreatDoor
open Go.RowKit
set_option linter.unusedVariables false

def isD (b : UInt8) : Bool := ([48, 49, 50, 51, 52, 53, 54, 55, 56, 57] : List UInt8).contains b
def endL (l : List UInt8) : List UInt8 := match l.reverse.dropWhile isD with
  | [] => l
  | c :: r => if c = 58 then r.reverse else l
theorem foldB_dig (b : UInt8) : isD (foldB b) = isD b := by
  have h : ∀ n : Fin 256, isD (foldB (UInt8.ofNat n.val)) = isD (UInt8.ofNat n.val) := by decide +kernel
  have k := h ⟨b.toNat, b.toNat_lt⟩
  simpa using k
theorem foldB_col (b : UInt8) : foldB b = 58 ↔ b = 58 := by
  have h : ∀ n : Fin 256, (foldB (UInt8.ofNat n.val) = 58 ↔ UInt8.ofNat n.val = 58) := by decide +kernel
  have k := h ⟨b.toNat, b.toNat_lt⟩
  simpa using k
theorem dw_fold : ∀ l : List UInt8, (l.map foldB).dropWhile isD = (l.dropWhile isD).map foldB
  | [] => rfl
  | b :: l => by
    rw [List.map_cons, List.dropWhile_cons, List.dropWhile_cons, foldB_dig]
    split
    · exact dw_fold l
    · rfl
theorem lext_data (x : ByteArray) (i j : Nat) : (x.extract i j).data.toList = (x.data.toList.take j).drop i := by
  rw [Lib.extract_data, List.drop_take]
theorem lbytes_eq {a b : ByteArray} (h : a.data.toList = b.data.toList) : a = b := ByteArray.ext (Array.toList_inj.1 h)
theorem hasS_last (l : List UInt8) (c : UInt8) : hasS ⟨(l ++ [c]).toArray⟩ ⟨#[58]⟩ = decide (c = 58) := by
  unfold hasS
  have e1 : (⟨(l ++ [c]).toArray⟩ : ByteArray).size = l.length + 1 := by show (l ++ [c]).toArray.size = _; simp
  have e2 : (⟨#[58]⟩ : ByteArray).size = 1 := rfl
  rw [e1, e2, decide_eq_true (by omega), Bool.true_and]
  have e3 : ((⟨(l ++ [c]).toArray⟩ : ByteArray).extract (l.length + 1 - 1) (l.length + 1)).toList = [c] := by
    rw [ByteArray.toList_eq, lext_data]
    show ((l ++ [c]).take (l.length + 1)).drop (l.length + 1 - 1) = [c]
    rw [List.take_of_length_le (by simp), Nat.add_sub_cancel, List.drop_left]
  rw [e3, ByteArray.toList_eq]
  show ([c] == [58]) = _
  simp [Bool.beq_eq_decide_eq]
theorem cutX_last (l : List UInt8) : cutX ⟨(l ++ [58]).toArray⟩ ⟨#[58]⟩ = ⟨l.toArray⟩ := by
  unfold cutX
  rw [hasS_last, if_pos (by decide)]
  have e1 : (⟨(l ++ [58]).toArray⟩ : ByteArray).size = l.length + 1 := by show (l ++ [58]).toArray.size = _; simp
  have e2 : (⟨#[58]⟩ : ByteArray).size = 1 := rfl
  rw [e1, e2, Nat.add_sub_cancel]
  refine lbytes_eq ?_
  rw [lext_data]
  show ((l ++ [58]).take l.length).drop 0 = l
  rw [List.take_left]; rfl
theorem port_fold (s : ByteArray) : portP (foldS s) = ⟨(foldL (endL s.data.toList)).toArray⟩ := by
  have e0 : noDig (foldS s) = ⟨(((s.data.toList.reverse.dropWhile isD).map foldB).reverse).toArray⟩ := by
    unfold noDig foldS Lib.trimRightS
    have e : (foldL s.data.toList).reverse = (s.data.toList.reverse).map foldB := by unfold foldL; rw [List.map_reverse]
    show (⟨(((foldL s.data.toList).reverse.dropWhile isD).reverse).toArray⟩ : ByteArray) = _
    rw [e, dw_fold]
  unfold portP endL
  rw [e0]
  cases h : s.data.toList.reverse.dropWhile isD with
  | nil =>
    rw [if_neg (by decide)]
    rfl
  | cons c r =>
    have e1 : ((c :: r).map foldB).reverse = (r.reverse.map foldB) ++ [foldB c] := by rw [List.map_cons, List.reverse_cons, List.map_reverse]
    rw [e1, hasS_last]
    by_cases hc : c = 58
    · subst hc
      have e2 : foldB 58 = 58 := by decide
      rw [e2, if_pos (by decide), cutX_last]
      simp only [if_true]
      rfl
    · rw [if_neg (by rw [decide_eq_false (fun k => hc ((foldB_col c).1 k))]; decide)]
      simp only [if_neg hc]
      rfl
theorem dw_all_true (p : UInt8 → Bool) : ∀ (a l : List UInt8), (∀ b ∈ a, p b = true) → (a ++ l).dropWhile p = l.dropWhile p
  | [], l, _ => rfl
  | x :: a, l, h => by
    rw [List.cons_append, List.dropWhile_cons, if_pos (h x (List.mem_cons_self ..))]
    exact dw_all_true p a l (fun b hb => h b (List.mem_cons_of_mem _ hb))
/-- The end that is found from behind. -/
theorem end_at (l : List UInt8) (j : Nat) (hj : j ≤ l.length) (hd : ∀ b ∈ l.drop j, isD b = true) (hn : j = 0 ∨ ∃ i, ∃ h : i < l.length, j = i + 1 ∧ isD l[i] = false) :
    (j = 0 → endL l = l) ∧ (∀ i (h : i < l.length), j = i + 1 → endL l = if l[i] = 58 then l.take i else l) := by
  have e : l.reverse.dropWhile isD = (l.take j).reverse.dropWhile isD := by
    have k : l.reverse = (l.drop j).reverse ++ (l.take j).reverse := by rw [← List.reverse_append, List.take_append_drop]
    rw [k, dw_all_true]
    intro b hb
    exact hd b (List.mem_reverse.1 hb)
  constructor
  · rintro rfl
    unfold endL
    rw [e]
    rfl
  · rintro i h rfl
    have hi : isD l[i] = false := by
      rcases hn with k | ⟨i', h', k1, k2⟩
      · omega
      · obtain rfl : i = i' := by omega
        exact k2
    unfold endL
    rw [e, List.take_succ_eq_append_getElem h, List.reverse_append, List.reverse_singleton, List.singleton_append, List.dropWhile_cons, if_neg (by rw [hi]; decide)]
    simp only
    by_cases hc : l[i] = 58
    · rw [if_pos hc, if_pos hc, List.reverse_reverse]
    · rw [if_neg hc, if_neg hc]
/-- What the reference answers of what is left. -/
def refO (o : ByteArray) : ByteArray × Bool := if allB hsP o.data.toList = false then (⟨#[]⟩, false) else if o.size = 0 then (⟨#[]⟩, false) else if 64 < o.size then (⟨#[]⟩, false) else (o, true)
theorem host_ref (s : ByteArray) : hostP s = refO ⟨(foldL (endL s.data.toList)).toArray⟩ := by
  unfold hostP refO
  rw [port_fold]
  generalize (⟨(foldL (endL s.data.toList)).toArray⟩ : ByteArray) = o
  by_cases h1 : o.size = 0
  · rw [if_pos h1]
    by_cases h2 : allB hsP o.data.toList = false
    · rw [if_pos h2]
    · rw [if_neg h2, if_pos h1]
  · rw [if_neg h1]
    by_cases h3 : 64 < o.size
    · rw [if_pos h3]
      by_cases h2 : allB hsP o.data.toList = false
      · rw [if_pos h2]
      · rw [if_neg h2, if_neg h1, if_pos h3]
    · rw [if_neg h3]
      by_cases h2 : allB hsP o.data.toList = false
      · rw [if_pos h2, if_pos h2]
      · rw [if_neg h2, if_neg h2, if_neg h1, if_neg h3]
theorem hs_fold (b : UInt8) (h : hsP (b.toNat : Int) = true) : foldB b = b := by
  have k : ∀ n : Fin 256, hsP ((UInt8.ofNat n.val).toNat : Int) = true → foldB (UInt8.ofNat n.val) = UInt8.ofNat n.val := by decide +kernel
  have q := k ⟨b.toNat, b.toNat_lt⟩
  simp only [UInt8.ofNat_toNat] at q
  exact q h
/-- A host's host is itself. -/
theorem host_again (s : ByteArray) (h : (hostP s).2 = true) : hostP ((hostP s).1 ++ ⟨#[58, 56, 48]⟩) = ((hostP s).1, true) := by
  have hr : refO (hostP s).1 = ((hostP s).1, true) ∧ allB hsP (hostP s).1.data.toList = true := by
    rw [host_ref] at h ⊢
    generalize (⟨(foldL (endL s.data.toList)).toArray⟩ : ByteArray) = o at *
    unfold refO at h ⊢
    by_cases h2 : allB hsP o.data.toList = false
    · rw [if_pos h2] at h; cases h
    · rw [if_neg h2] at h ⊢
      by_cases h1 : o.size = 0
      · rw [if_pos h1] at h; cases h
      · rw [if_neg h1] at h ⊢
        by_cases h3 : 64 < o.size
        · rw [if_pos h3] at h; cases h
        · rw [if_neg h3]
          simp only
          exact ⟨by rw [if_neg h2, if_neg h1, if_neg h3], by simpa using h2⟩
  obtain ⟨hr1, hr2⟩ := hr
  generalize (hostP s).1 = o at *
  rw [host_ref]
  have e : endL (o ++ ⟨#[58, 56, 48]⟩ : ByteArray).data.toList = o.data.toList := by
    have e1 : (o ++ ⟨#[58, 56, 48]⟩ : ByteArray).data.toList = o.data.toList ++ [58, 56, 48] := by rw [ByteArray.data_append, Array.toList_append]
    rw [e1]
    have ed : (o.data.toList ++ [58, 56, 48]).reverse.dropWhile isD = 58 :: o.data.toList.reverse := by
      rw [List.reverse_append]
      show (48 :: 56 :: 58 :: o.data.toList.reverse).dropWhile isD = _
      rw [List.dropWhile_cons, if_pos (by decide), List.dropWhile_cons, if_pos (by decide), List.dropWhile_cons, if_neg (by decide)]
    unfold endL
    rw [ed]
    simp
  rw [e]
  have e2 : foldL o.data.toList = o.data.toList := by
    unfold foldL
    unfold allB at hr2
    rw [List.all_eq_true] at hr2
    have k : ∀ b ∈ o.data.toList, foldB b = id b := fun b hb => hs_fold b (hr2 b hb)
    rw [List.map_congr_left k, List.map_id]
  rw [e2]
  exact hr1
end Go.Proofs.YthbjdbookiejeacGreatDoor
