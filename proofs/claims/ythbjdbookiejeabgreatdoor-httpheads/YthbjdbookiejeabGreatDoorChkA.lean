/- Bodies in chunks, byte by byte. -/
import Derived.Test.YthbjdbookiejeabGreatDoorLinB
import Derived.Test.YthbjdbookiejeabGreatDoorHexR
import Derived.Test.YthbjdbookiejeabGreatDoorFldA
import Derived.Test.YthbjdbookiejeabGreatDoorShTrimR
namespace Go.Proofs.YthbjdbookiejeabGreatDoor
open Go.RowKit
set_option linter.unusedVariables false

theorem cutAt_le (m : Nat) : ∀ (l : List UInt8) (i k : Nat) (e : Int), i ≤ m → cutAt m i l = (some k, e) → k ≤ m
  | [], i, k, e, hi, h => by simp [cutAt] at h
  | c :: l, i, k, e, hi, h => by
    rw [cutAt] at h
    by_cases h1 : c = 10
    · rw [if_pos h1] at h; simp at h
    · rw [if_neg h1] at h
      by_cases h2 : c = 13
      · rw [if_pos h2] at h
        by_cases h3 : l.head? = none
        · rw [if_pos h3] at h; simp at h
        · rw [if_neg h3] at h
          by_cases h4 : l.head? = some 10
          · rw [if_pos h4] at h
            have : i = k ∧ 0 = e := by simpa using h
            omega
          · rw [if_neg h4] at h; simp at h
      · rw [if_neg h2] at h
        by_cases h3 : m ≤ i
        · rw [if_pos h3] at h; simp at h
        · rw [if_neg h3] at h
          exact cutAt_le m l (i + 1) k e (by omega) h

/-- The text of a line. -/
def tx (l : List UInt8) : ByteArray := ⟨l.toArray⟩
theorem tx_size (l : List UInt8) : (tx l).size = l.length := rfl
/-- The size that a chunk's line tells. -/
def szO (s : List UInt8) : Option Nat := if allB valP (Lib.cut s [59]).2.1 then numV 16 15 (tx (Lib.trimRightS (Lib.cut s [59]).1 [32, 9])) else none
/-- How a chunk's end stands. -/
def endsP (l : List UInt8) : Bool × Int :=
  match l with
  | [] => (false, 0)
  | c :: r => if c = 13 then (match r with | [] => (false, 0) | d :: _ => if d = 10 then (true, 0) else (false, 20)) else (false, 20)
/-- A chunk whose line ends at i and tells o: the error, how many bytes it takes, where its bytes begin, how many they are. -/
def oneK (m : Nat) (b : List UInt8) (i : Nat) (o : Option Nat) : Int × Nat × Nat × Nat :=
  match o with
  | none => (30, 0, 0, 0)
  | some k =>
    if m < k then (2, 0, 0, 0) else if k = 0 then (0, i + 2, 0, 0) else if b.length - (i + 2) < k then (0, 0, 0, 0)
    else if (endsP (b.drop (i + 2 + k))).1 then (0, i + 2 + k + 2, i + 2, k) else ((endsP (b.drop (i + 2 + k))).2, 0, 0, 0)
def oneP (m : Nat) (b : List UInt8) : Int × Nat × Nat × Nat :=
  match cutAt 256 0 b with
  | (none, e) => (e, 0, 0, 0)
  | (some i, _) => oneK m b i (szO (b.take i))
theorem oneP_hit {m i : Nat} {b : List UInt8} {e : Int} (h : cutAt 256 0 b = (some i, e)) : oneP m b = oneK m b i (szO (b.take i)) := by unfold oneP; rw [h]
theorem oneP_miss {m : Nat} {b : List UInt8} {e : Int} (h : cutAt 256 0 b = (none, e)) : oneP m b = (e, 0, 0, 0) := by unfold oneP; rw [h]
theorem oneK_some (m : Nat) (b : List UInt8) (i k : Nat) : oneK m b i (some k) = if m < k then (2, 0, 0, 0) else if k = 0 then (0, i + 2, 0, 0) else if b.length - (i + 2) < k then (0, 0, 0, 0) else if (endsP (b.drop (i + 2 + k))).1 then (0, i + 2 + k + 2, i + 2, k) else ((endsP (b.drop (i + 2 + k))).2, 0, 0, 0) := rfl
def fldOk (l : List UInt8) : Bool := decide ((prs (tx l)).2.2 = 0)
/-- What stands behind something. -/
def plusN (at_ : Nat) (r : Nat × Int) : Nat × Int := if r.1 = 0 then (0, r.2) else (at_ + r.1, 0)
/-- A trailer line, and what follows it. -/
def trK (l : List UInt8) (rest : Nat → Nat × Int) : Nat × Int :=
  match cutAt 256 0 l with
  | (none, e) => (0, e)
  | (some i, _) => if i = 0 then (2, 0) else if fldOk (l.take i) = false then (0, 20) else rest i
/-- The trailer lines, of which r more may come: how many bytes, the error. -/
def trailL : Nat → List UInt8 → Nat × Int
  | 0, l => trK l fun _ => (0, 3)
  | r + 1, l => trK l fun i => plusN (i + 2) (trailL r (l.drop (i + 2)))
theorem trK_miss {l : List UInt8} {e : Int} {f : Nat → Nat × Int} (h : cutAt 256 0 l = (none, e)) : trK l f = (0, e) := by unfold trK; rw [h]
theorem trK_end {l : List UInt8} {f : Nat → Nat × Int} (h : cutAt 256 0 l = (some 0, 0)) : trK l f = (2, 0) := by unfold trK; rw [h]; rfl
theorem trK_bad {i : Nat} {l : List UInt8} {f : Nat → Nat × Int} (h : cutAt 256 0 l = (some i, 0)) (hi : ¬ i = 0) (hf : fldOk (l.take i) = false) : trK l f = (0, 20) := by
  unfold trK; rw [h]; simp only; rw [if_neg hi, if_pos hf]
theorem trK_next {i : Nat} {l : List UInt8} {f : Nat → Nat × Int} (h : cutAt 256 0 l = (some i, 0)) (hi : ¬ i = 0) (hf : fldOk (l.take i) = true) : trK l f = f i := by
  unfold trK; rw [h]; simp only; rw [if_neg hi, if_neg (by rw [hf]; decide)]
theorem trailL_miss {r : Nat} {l : List UInt8} {e : Int} (h : cutAt 256 0 l = (none, e)) : trailL r l = (0, e) := by cases r <;> exact trK_miss h
theorem trailL_end {r : Nat} {l : List UInt8} (h : cutAt 256 0 l = (some 0, 0)) : trailL r l = (2, 0) := by cases r <;> exact trK_end h
theorem trailL_bad {r i : Nat} {l : List UInt8} (h : cutAt 256 0 l = (some i, 0)) (hi : ¬ i = 0) (hf : fldOk (l.take i) = false) : trailL r l = (0, 20) := by cases r <;> exact trK_bad h hi hf
theorem trailL_many {i : Nat} {l : List UInt8} (h : cutAt 256 0 l = (some i, 0)) (hi : ¬ i = 0) (hf : fldOk (l.take i) = true) : trailL 0 l = (0, 3) := trK_next h hi hf
theorem trailL_next {r i : Nat} {l : List UInt8} (h : cutAt 256 0 l = (some i, 0)) (hi : ¬ i = 0) (hf : fldOk (l.take i) = true) : trailL (r + 1) l = plusN (i + 2) (trailL r (l.drop (i + 2))) := trK_next h hi hf
def plusD (acc : List UInt8) (at_ : Nat) (r : List UInt8 × Nat × Int) : List UInt8 × Nat × Int := if r.2.1 = 0 then ([], 0, r.2.2) else (acc ++ r.1, at_ + r.2.1, 0)
/-- A body: its bytes, how many it takes, the error. -/
def decL : Nat → Nat → List UInt8 → List UInt8 × Nat × Int
  | 0, _, _ => ([], 0, 0)
  | f + 1, m, l =>
    if (oneP m l).2.1 = 0 then ([], 0, (oneP m l).1)
    else if (oneP m l).2.2.2 = 0 then plusD [] (oneP m l).2.1 ([], trailL 40 (l.drop (oneP m l).2.1))
    else plusD ((l.drop (oneP m l).2.2.1).take (oneP m l).2.2.2) (oneP m l).2.1 (decL f (m - (oneP m l).2.2.2) (l.drop (oneP m l).2.1))
def decR (m : Nat) (b : List UInt8) : List UInt8 × Nat × Int := decL (b.length + 1) m b

theorem plusD_plusD (a b : List UInt8) (i j : Nat) (r : List UInt8 × Nat × Int) (hj : 0 < j) : plusD a i (plusD b j r) = plusD (a ++ b) (i + j) r := by
  unfold plusD
  by_cases h : r.2.1 = 0
  · rw [if_pos h, if_pos rfl, if_pos h]
  · rw [if_neg h, if_neg (by simp only; omega), if_neg h]
    simp [List.append_assoc, Nat.add_assoc]
theorem plusN_plusN (i j : Nat) (r : Nat × Int) (hj : 0 < j) : plusN i (plusN j r) = plusN (i + j) r := by
  unfold plusN
  by_cases h : r.1 = 0
  · rw [if_pos h, if_pos rfl, if_pos h]
  · rw [if_neg h, if_neg (by simp only; omega), if_neg h]
    simp [Nat.add_assoc]

/-- What is told of a chunk. -/
theorem oneP_cases (m : Nat) (b : List UInt8) : (∃ e, oneP m b = (e, 0, 0, 0)) ∨ (∃ i, oneP m b = (0, i + 2, 0, 0) ∧ i + 2 ≤ b.length ∧ cutAt 256 0 b = (some i, 0) ∧ szO (b.take i) = some 0) ∨
    (∃ i k, oneP m b = (0, i + 2 + k + 2, i + 2, k) ∧ 0 < k ∧ k ≤ m ∧ i + 2 + k + 2 ≤ b.length ∧ cutAt 256 0 b = (some i, 0) ∧ szO (b.take i) = some k ∧ (endsP (b.drop (i + 2 + k))).1 = true) := by
  rcases cut_cases 256 b with ⟨i, h, hl, _⟩ | ⟨e, h⟩
  · rw [oneP_hit h, h]
    cases hz : szO (b.take i) with
    | none => exact .inl ⟨30, rfl⟩
    | some k =>
      rw [oneK_some]
      by_cases h1 : m < k
      · rw [if_pos h1]; exact .inl ⟨2, rfl⟩
      · rw [if_neg h1]
        by_cases h2 : k = 0
        · subst h2
          rw [if_pos rfl]; exact .inr (.inl ⟨i, rfl, hl, rfl, hz⟩)
        · rw [if_neg h2]
          by_cases h3 : b.length - (i + 2) < k
          · rw [if_pos h3]; exact .inl ⟨0, rfl⟩
          · rw [if_neg h3]
            by_cases h4 : (endsP (b.drop (i + 2 + k))).1 = true
            · rw [if_pos h4]
              refine .inr (.inr ⟨i, k, rfl, by omega, by omega, ?_, rfl, hz, h4⟩)
              have : 2 ≤ (b.drop (i + 2 + k)).length := by
                match hd : b.drop (i + 2 + k) with
                | [] => rw [hd] at h4; simp [endsP] at h4
                | [c] => rw [hd] at h4; by_cases hc : c = 13 <;> simp [endsP, hc] at h4
                | c :: d :: r => simp
              rw [List.length_drop] at this
              omega
            · rw [if_neg h4]; exact .inl ⟨_, rfl⟩
  · rw [oneP_miss h]; exact .inl ⟨e, rfl⟩
end Go.Proofs.YthbjdbookiejeabGreatDoor
