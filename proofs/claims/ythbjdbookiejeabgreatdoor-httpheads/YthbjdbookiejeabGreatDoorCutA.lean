/- The parts of a list, byte by byte. -/
import Derived.Test.YthbjdbookiejeabGreatDoorTrimA
import Derived.Test.YthbjdbookiejeabGreatDoorTxtB
import Derived.Lib.SplitLaws
namespace Go.Proofs.YthbjdbookiejeabGreatDoor
open Go.RowKit
set_option linter.unusedVariables false

def cuts : List UInt8 → List UInt8 → List (List UInt8)
  | acc, [] => [acc]
  | acc, b :: l => if b = 44 then acc :: cuts [] l else cuts (acc ++ [b]) l
theorem cuts_miss : ∀ (l acc : List UInt8), Lib.index l [44] = -1 → cuts acc l = [acc ++ l]
  | [], acc, _ => by simp [cuts]
  | b :: l, acc, h => by
    rw [Lib.index] at h
    by_cases hb : b = 44
    · subst hb; simp [List.isPrefixOf] at h
    · have hp : ([44] : List UInt8).isPrefixOf (b :: l) = false := by simp [List.isPrefixOf, Ne.symm hb]
      rw [hp] at h
      have hge := Lib.index_ge l [44]
      have hm : Lib.index l [44] = -1 := by
        by_cases e : Lib.index l [44] = -1
        · exact e
        · rw [if_neg (by decide), if_neg (fun q => e (beq_iff_eq.1 q))] at h; omega
      rw [cuts, if_neg hb, cuts_miss l _ hm]; simp
theorem cuts_hit : ∀ (l acc : List UInt8) (i : Nat), Lib.index l [44] = i → cuts acc l = (acc ++ l.take i) :: cuts [] (l.drop (i + 1))
  | [], acc, i, h => by simp [Lib.index] at h
  | b :: l, acc, i, h => by
    rw [Lib.index] at h
    by_cases hb : b = 44
    · subst hb
      have : i = 0 := by simp [List.isPrefixOf] at h; omega
      subst this
      simp [cuts]
    · have hp : ([44] : List UInt8).isPrefixOf (b :: l) = false := by simp [List.isPrefixOf, Ne.symm hb]
      rw [hp, if_neg (by decide)] at h
      have hge := Lib.index_ge l [44]
      by_cases e : Lib.index l [44] = -1
      · rw [if_pos (beq_iff_eq.2 e)] at h; omega
      · rw [if_neg (fun q => e (beq_iff_eq.1 q))] at h
        obtain ⟨j, rfl⟩ : ∃ j, i = j + 1 := ⟨i - 1, by omega⟩
        rw [cuts, if_neg hb, cuts_hit l _ j (by omega)]
        simp
theorem split_cuts : ∀ (k : Nat) (s : ByteArray), Lib.countB s ⟨#[44]⟩ = k → (Lib.splitB ⟨#[44]⟩ 0 k s).map (·.data.toList) = cuts [] s.data.toList
  | 0, s, hk => by
    rcases Lib.indexB_cases s ⟨#[44]⟩ with hix | ⟨i, hix, _⟩
    · rw [cuts_miss _ _ hix]; rfl
    · have := Lib.countB_hit s ⟨#[44]⟩ i (by decide) hix; omega
  | k + 1, s, hk => by
    rcases Lib.indexB_cases s ⟨#[44]⟩ with hix | ⟨i, hix, _⟩
    · rw [Lib.countB_miss s _ hix] at hk; omega
    · rw [Lib.splitB_hit _ 0 k s i hix, List.map_cons, split_cuts k _ (by have := Lib.countB_hit s ⟨#[44]⟩ i (by decide) hix; omega), cuts_hit _ _ i hix, Lib.extract_from_zero, Lib.extract_to_end]
      rfl
theorem pieces_cuts (s : ByteArray) : (pieces s).map (·.data.toList) = cuts [] s.data.toList := split_cuts _ s rfl
theorem pieces_length (s : ByteArray) : (pieces s).length = Lib.countB s ⟨#[44]⟩ + 1 := Lib.splitB_all ⟨#[44]⟩ (by decide) 0 _ s rfl
theorem cuts_len : ∀ (l acc : List UInt8), ∀ p ∈ cuts acc l, p.length ≤ acc.length + l.length
  | [], acc, p, h => by
    rw [cuts, List.mem_singleton] at h
    rw [h]; simp
  | b :: l, acc, p, h => by
    rw [cuts] at h
    split at h
    · cases h with
      | head => simp
      | tail _ h => have := cuts_len l [] p h; simp at this ⊢; omega
    · have := cuts_len l (acc ++ [b]) p h
      simp at this ⊢; omega
theorem pieces_size (s : ByteArray) : ∀ p ∈ pieces s, p.size ≤ s.size := by
  intro p hp
  have h : p.data.toList ∈ cuts [] s.data.toList := by rw [← pieces_cuts]; exact List.mem_map.2 ⟨p, hp, rfl⟩
  have k := cuts_len _ _ _ h
  have k2 : p.size = p.data.toList.length := rfl
  have k3 : s.size = s.data.toList.length := rfl
  simp at k k2 k3
  omega
theorem map_data_inj {a b : List ByteArray} (h : a.map (·.data.toList) = b.map (·.data.toList)) : a = b := by
  induction a generalizing b with
  | nil => cases b with
    | nil => rfl
    | cons _ _ => cases h
  | cons x a ih => cases b with
    | nil => cases h
    | cons y b =>
      rw [List.map_cons, List.map_cons] at h
      injection h with h1 h2
      rw [bytes_eq h1, ih h2]

/-- How far the reference has come: the parts that it has cut, where the next begins, and where it stands. -/
def Scan (s : ByteArray) (ps : List ByteArray) (f k : Nat) : Prop := f ≤ k ∧ k ≤ s.size ∧ ps.map (·.data.toList) ++ cuts ((s.data.toList.take k).drop f) (s.data.toList.drop k) = cuts [] s.data.toList
theorem Scan.start (s : ByteArray) : Scan s [] 0 0 := ⟨Nat.le_refl _, Nat.zero_le _, by simp⟩
theorem Scan.go {s : ByteArray} {ps : List ByteArray} {f k : Nat} (h : Scan s ps f k) (hk : k < s.size) (hb : s[k] ≠ 44) : Scan s ps f (k + 1) := by
  obtain ⟨h1, _, h3⟩ := h
  have hk' : k < s.data.toList.length := hk
  refine ⟨by omega, hk, ?_⟩
  rw [List.drop_eq_getElem_cons hk', cuts, if_neg (show s.data.toList[k] ≠ 44 from hb)] at h3
  rw [← h3, List.take_succ_eq_append_getElem hk', List.drop_append_of_le_length (by rw [List.length_take]; omega)]
theorem Scan.cut {s : ByteArray} {ps : List ByteArray} {f k : Nat} (h : Scan s ps f k) (hk : k < s.size) (hb : s[k] = 44) : Scan s (ps ++ [s.extract f k]) (k + 1) (k + 1) := by
  obtain ⟨h1, _, h3⟩ := h
  have hk' : k < s.data.toList.length := hk
  refine ⟨Nat.le_refl _, hk, ?_⟩
  rw [List.drop_eq_getElem_cons hk', cuts, if_pos (show s.data.toList[k] = 44 from hb)] at h3
  have hd : List.drop (k + 1) (List.take (k + 1) s.data.toList) = [] := List.drop_eq_nil_of_le (by rw [List.length_take]; omega)
  rw [← h3, hd, List.map_append, List.map_cons, List.map_nil, Lib.extract_data, ← List.drop_take, List.append_assoc, List.singleton_append]
theorem Scan.fin {s : ByteArray} {ps : List ByteArray} {f : Nat} (h : Scan s ps f s.size) : ps ++ [s.extract f s.size] = pieces s := by
  obtain ⟨h1, _, h3⟩ := h
  have hd : List.drop s.size s.data.toList = [] := List.drop_eq_nil_of_le (Nat.le_refl _)
  rw [hd, cuts] at h3
  refine map_data_inj ?_
  rw [pieces_cuts, ← h3, List.map_append, List.map_cons, List.map_nil, Lib.extract_data, List.drop_take]
end Go.Proofs.YthbjdbookiejeabGreatDoor
