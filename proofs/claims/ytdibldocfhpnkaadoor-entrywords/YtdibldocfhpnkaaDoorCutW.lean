/- The words of a line, byte by byte. -/
import Derived.Test.YtdibldocfhpnkaaDoorTsA
import Derived.Lib.SplitLaws
namespace Go.Proofs.YtdibldocfhpnkaaDoor
open Go.RowKit
set_option linter.unusedVariables false

theorem bytes_eqW {a b : ByteArray} (h : a.data.toList = b.data.toList) : a = b := by
  cases a; cases b; congr 1; exact Array.toList_inj.1 h
def piecew (s : ByteArray) : List ByteArray := Lib.splitB ⟨#[32]⟩ 0 (Lib.countB s ⟨#[32]⟩) s
def cutw : List UInt8 → List UInt8 → List (List UInt8)
  | acc, [] => [acc]
  | acc, b :: l => if b = 32 then acc :: cutw [] l else cutw (acc ++ [b]) l
theorem cutw_miss : ∀ (l acc : List UInt8), Lib.index l [32] = -1 → cutw acc l = [acc ++ l]
  | [], acc, _ => by simp [cutw]
  | b :: l, acc, h => by
    rw [Lib.index] at h
    by_cases hb : b = 32
    · subst hb; simp [List.isPrefixOf] at h
    · have hp : ([32] : List UInt8).isPrefixOf (b :: l) = false := by simp [List.isPrefixOf, Ne.symm hb]
      rw [hp] at h
      have hge := Lib.index_ge l [32]
      have hm : Lib.index l [32] = -1 := by
        by_cases e : Lib.index l [32] = -1
        · exact e
        · rw [if_neg (by decide), if_neg (fun q => e (beq_iff_eq.1 q))] at h; omega
      rw [cutw, if_neg hb, cutw_miss l _ hm]; simp
theorem cutw_hit : ∀ (l acc : List UInt8) (i : Nat), Lib.index l [32] = i → cutw acc l = (acc ++ l.take i) :: cutw [] (l.drop (i + 1))
  | [], acc, i, h => by simp [Lib.index] at h
  | b :: l, acc, i, h => by
    rw [Lib.index] at h
    by_cases hb : b = 32
    · subst hb
      have : i = 0 := by simp [List.isPrefixOf] at h; omega
      subst this
      simp [cutw]
    · have hp : ([32] : List UInt8).isPrefixOf (b :: l) = false := by simp [List.isPrefixOf, Ne.symm hb]
      rw [hp, if_neg (by decide)] at h
      have hge := Lib.index_ge l [32]
      by_cases e : Lib.index l [32] = -1
      · rw [if_pos (beq_iff_eq.2 e)] at h; omega
      · rw [if_neg (fun q => e (beq_iff_eq.1 q))] at h
        obtain ⟨j, rfl⟩ : ∃ j, i = j + 1 := ⟨i - 1, by omega⟩
        rw [cutw, if_neg hb, cutw_hit l _ j (by omega)]
        simp
theorem split_cutw : ∀ (k : Nat) (s : ByteArray), Lib.countB s ⟨#[32]⟩ = k → (Lib.splitB ⟨#[32]⟩ 0 k s).map (·.data.toList) = cutw [] s.data.toList
  | 0, s, hk => by
    rcases Lib.indexB_cases s ⟨#[32]⟩ with hix | ⟨i, hix, _⟩
    · rw [cutw_miss _ _ hix]; rfl
    · have := Lib.countB_hit s ⟨#[32]⟩ i (by decide) hix; omega
  | k + 1, s, hk => by
    rcases Lib.indexB_cases s ⟨#[32]⟩ with hix | ⟨i, hix, _⟩
    · rw [Lib.countB_miss s _ hix] at hk; omega
    · rw [Lib.splitB_hit _ 0 k s i hix, List.map_cons, split_cutw k _ (by have := Lib.countB_hit s ⟨#[32]⟩ i (by decide) hix; omega), cutw_hit _ _ i hix, Lib.extract_from_zero, Lib.extract_to_end]
      rfl
theorem piecew_cuts (s : ByteArray) : (piecew s).map (·.data.toList) = cutw [] s.data.toList := split_cutw _ s rfl
theorem piecew_length (s : ByteArray) : (piecew s).length = Lib.countB s ⟨#[32]⟩ + 1 := Lib.splitB_all ⟨#[32]⟩ (by decide) 0 _ s rfl
theorem cutw_len : ∀ (l acc : List UInt8), ∀ p ∈ cutw acc l, p.length ≤ acc.length + l.length
  | [], acc, p, h => by
    rw [cutw, List.mem_singleton] at h
    rw [h]; simp
  | b :: l, acc, p, h => by
    rw [cutw] at h
    split at h
    · cases h with
      | head => simp
      | tail _ h => have := cutw_len l [] p h; simp at this ⊢; omega
    · have := cutw_len l (acc ++ [b]) p h
      simp at this ⊢; omega
theorem piecew_size (s : ByteArray) : ∀ p ∈ piecew s, p.size ≤ s.size := by
  intro p hp
  have h : p.data.toList ∈ cutw [] s.data.toList := by rw [← piecew_cuts]; exact List.mem_map.2 ⟨p, hp, rfl⟩
  have k := cutw_len _ _ _ h
  have k2 : p.size = p.data.toList.length := rfl
  have k3 : s.size = s.data.toList.length := rfl
  simp at k k2 k3
  omega
theorem map_data_injW {a b : List ByteArray} (h : a.map (·.data.toList) = b.map (·.data.toList)) : a = b := by
  induction a generalizing b with
  | nil => cases b with
    | nil => rfl
    | cons _ _ => cases h
  | cons x a ih => cases b with
    | nil => cases h
    | cons y b =>
      rw [List.map_cons, List.map_cons] at h
      injection h with h1 h2
      rw [bytes_eqW h1, ih h2]

/-- How far the reference has come: the parts that it has cut, where the next begins, and where it stands. -/
def ScanW (s : ByteArray) (ps : List ByteArray) (f k : Nat) : Prop := f ≤ k ∧ k ≤ s.size ∧ ps.map (·.data.toList) ++ cutw ((s.data.toList.take k).drop f) (s.data.toList.drop k) = cutw [] s.data.toList
theorem ScanW.start (s : ByteArray) : ScanW s [] 0 0 := ⟨Nat.le_refl _, Nat.zero_le _, by simp⟩
theorem ScanW.go {s : ByteArray} {ps : List ByteArray} {f k : Nat} (h : ScanW s ps f k) (hk : k < s.size) (hb : s[k] ≠ 32) : ScanW s ps f (k + 1) := by
  obtain ⟨h1, _, h3⟩ := h
  have hk' : k < s.data.toList.length := hk
  refine ⟨by omega, hk, ?_⟩
  rw [List.drop_eq_getElem_cons hk', cutw, if_neg (show s.data.toList[k] ≠ 32 from hb)] at h3
  rw [← h3, List.take_succ_eq_append_getElem hk', List.drop_append_of_le_length (by rw [List.length_take]; omega)]
theorem ScanW.cut {s : ByteArray} {ps : List ByteArray} {f k : Nat} (h : ScanW s ps f k) (hk : k < s.size) (hb : s[k] = 32) : ScanW s (ps ++ [s.extract f k]) (k + 1) (k + 1) := by
  obtain ⟨h1, _, h3⟩ := h
  have hk' : k < s.data.toList.length := hk
  refine ⟨Nat.le_refl _, hk, ?_⟩
  rw [List.drop_eq_getElem_cons hk', cutw, if_pos (show s.data.toList[k] = 32 from hb)] at h3
  have hd : List.drop (k + 1) (List.take (k + 1) s.data.toList) = [] := List.drop_eq_nil_of_le (by rw [List.length_take]; omega)
  rw [← h3, hd, List.map_append, List.map_cons, List.map_nil, Lib.extract_data, ← List.drop_take, List.append_assoc, List.singleton_append]
theorem ScanW.fin {s : ByteArray} {ps : List ByteArray} {f : Nat} (h : ScanW s ps f s.size) : ps ++ [s.extract f s.size] = piecew s := by
  obtain ⟨h1, _, h3⟩ := h
  have hd : List.drop s.size s.data.toList = [] := List.drop_eq_nil_of_le (Nat.le_refl _)
  rw [hd, cutw] at h3
  refine map_data_injW ?_
  rw [piecew_cuts, ← h3, List.map_append, List.map_cons, List.map_nil, Lib.extract_data, List.drop_take]
end Go.Proofs.YtdibldocfhpnkaaDoor
