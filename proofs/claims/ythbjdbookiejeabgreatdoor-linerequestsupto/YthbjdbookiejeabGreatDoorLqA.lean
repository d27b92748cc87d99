/- Parts between blanks, plain: at most four of them are found as all of them are. -/
import Derived.Test.YthbjdbookiejeabGreatDoorLrA
namespace Go.Proofs.YthbjdbookiejeabGreatDoor
open Go.RowKit
set_option linter.unusedVariables false

/-- All parts between blanks. -/
def pl : List UInt8 → List (List UInt8)
  | [] => [[]]
  | b :: l => if b = 32 then [] :: pl l else match pl l with
    | a :: t => (b :: a) :: t
    | [] => [[b]]
theorem pl_ne : ∀ l, ∃ a t, pl l = a :: t
  | [] => ⟨[], [], rfl⟩
  | b :: l => by
    obtain ⟨a, t, h⟩ := pl_ne l
    unfold pl
    rw [h]
    by_cases hb : b = 32
    · rw [if_pos hb]; exact ⟨_, _, rfl⟩
    · rw [if_neg hb]; exact ⟨_, _, rfl⟩
def NoB (a : List UInt8) : Prop := ∀ b ∈ a, b ≠ 32
theorem pl_no : ∀ a, NoB a → pl a = [a]
  | [], _ => rfl
  | b :: l, h => by
    have ih := pl_no l (fun x hx => h x (List.mem_cons_of_mem _ hx))
    unfold pl
    rw [if_neg (h b (List.mem_cons_self ..)), ih]
theorem pl_hit : ∀ a l, NoB a → pl (a ++ 32 :: l) = a :: pl l
  | [], l, _ => by
    show pl (32 :: l) = _
    rw [pl, if_pos rfl]
  | b :: a, l, h => by
    have ih := pl_hit a l (fun x hx => h x (List.mem_cons_of_mem _ hx))
    rw [List.cons_append, pl, if_neg (h b (List.mem_cons_self ..)), ih]
theorem pl_len : ∀ l, (pl l).length ≤ l.length + 1
  | [] => Nat.le_refl _
  | b :: l => by
    have ih := pl_len l
    obtain ⟨a, t, h⟩ := pl_ne l
    unfold pl
    rw [h] at ih ⊢
    by_cases hb : b = 32
    · rw [if_pos hb]
      simp only [List.length_cons] at ih ⊢
      omega
    · rw [if_neg hb]
      simp only [List.length_cons] at ih ⊢
      omega
theorem idxN : ∀ l : List UInt8, (Lib.index l [32] = -1 ∧ NoB l) ∨ ∃ a t, l = a ++ 32 :: t ∧ NoB a ∧ Lib.index l [32] = (a.length : Int)
  | [] => Or.inl ⟨by simp [Lib.index], fun _ h => by cases h⟩
  | b :: l => by
    by_cases hb : b = 32
    · subst hb
      exact Or.inr ⟨[], l, rfl, (fun _ h => by cases h), by simp [Lib.index, List.isPrefixOf]⟩
    · have hp : ([32] : List UInt8).isPrefixOf (b :: l) = false := by simp [List.isPrefixOf, Ne.symm hb]
      rcases idxN l with ⟨h, hn⟩ | ⟨a, t, e, hn, h⟩
      · left
        refine ⟨?_, ?_⟩
        · rw [Lib.index, hp, h]
          simp
        · intro x hx
          cases hx with
          | head => exact hb
          | tail _ hx => exact hn x hx
      · right
        refine ⟨b :: a, t, by rw [e]; rfl, ?_, ?_⟩
        · intro x hx
          cases hx with
          | head => exact hb
          | tail _ hx => exact hn x hx
        · rw [Lib.index, hp, h, if_neg (by decide), if_neg (by simp)]
          simp only [List.length_cons]
          omega
theorem split_pl : ∀ (k : Nat) (l : List UInt8), Lib.splitK [32] 0 k l = pl l ∨ ((Lib.splitK [32] 0 k l).length = k + 1 ∧ k + 1 < (pl l).length)
  | 0, l => by
    rcases idxN l with ⟨_, hn⟩ | ⟨a, t, rfl, hn, _⟩
    · left; rw [pl_no l hn]; rfl
    · right
      refine ⟨rfl, ?_⟩
      rw [pl_hit a t hn]
      obtain ⟨x, y, e⟩ := pl_ne t
      rw [e]
      simp only [List.length_cons]
      omega
  | k + 1, l => by
    rcases idxN l with ⟨h, hn⟩ | ⟨a, t, e, hn, h⟩
    · left
      rw [Lib.splitK, h, pl_no l hn]
      rfl
    · have hne : ¬ (((a.length : Int) == -1) = true) := by simp
      have e1 : ((a.length : Int).toNat + ([32] : List UInt8).length) = a.length + 1 := rfl
      have e0 : ((a.length : Int).toNat + 0) = a.length := rfl
      rw [Lib.splitK, h, if_neg hne, e1, e0]
      have d : l.drop (a.length + 1) = t := by
        rw [e, show a ++ 32 :: t = (a ++ [32]) ++ t by simp, show a.length + 1 = (a ++ [32]).length by simp, List.drop_left]
      have d0 : l.take a.length = a := by rw [e, List.take_left]
      rw [d, d0, e, pl_hit a t hn]
      rcases split_pl k t with q | ⟨q1, q2⟩
      · left; rw [q]
      · right
        simp only [List.length_cons]
        omega
/-- All parts between blanks, as texts. -/
def partsB (s : ByteArray) : List ByteArray := (pl s.data.toList).map fun l => ⟨l.toArray⟩
theorem four_parts (s : ByteArray) : part4 s = partsB s ∨ ((part4 s).length = 4 ∧ 4 < (partsB s).length) := by
  have k := Lib.splitB_data ⟨#[32]⟩ 0 (min 4 (s.size + 1) - 1) s
  have hb : part4 s = (Lib.splitK [32] 0 (min 4 (s.size + 1) - 1) s.data.toList).map fun l => ⟨l.toArray⟩ := by
    rw [show Lib.splitK [32] 0 (min 4 (s.size + 1) - 1) s.data.toList = (Lib.splitB ⟨#[32]⟩ 0 (min 4 (s.size + 1) - 1) s).map (fun b => b.data.toList) from k.symm]
    rw [List.map_map]
    unfold part4
    conv => lhs; rw [← List.map_id (Lib.splitB ⟨#[32]⟩ 0 (min 4 (s.size + 1) - 1) s)]
    rfl
  rw [hb]
  unfold partsB
  rcases split_pl (min 4 (s.size + 1) - 1) s.data.toList with q | ⟨q1, q2⟩
  · left; rw [q]
  · have hl := pl_len s.data.toList
    have e : s.data.toList.length = s.size := rfl
    right
    rw [List.length_map, List.length_map]
    omega
/-- What the reference's Request answers of three parts. -/
def rqR (p0 p1 p2 : ByteArray) : Rq :=
  if (allB tokP p0.data.toList && decide (0 < p0.size)) = false then rqNo 400 else if 20 < p0.size then rqNo 400 else if tgtP p1 = false then rqNo 400 else
  if decide (p1.data.toList.head? = some 47) = false ∧ (eqS p1 ⟨#[42]⟩ = false ∨ eqS p0 ⟨#[79, 80, 84, 73, 79, 78, 83]⟩ = false) then rqNo 400 else if 512 < p1.size then rqNo 414 else
  if (rverL p2.data.toList).2.2 = false then rqNo 400 else if ¬ (rverL p2.data.toList).1 = 1 then rqNo 505 else if 1 < (rverL p2.data.toList).2.1 then rqNo 505 else ⟨p0, p1, (rverL p2.data.toList).2.1, 0⟩
def refQ (s : ByteArray) : Rq := match partsB s with
  | [p0, p1, p2] => rqR p0 p1 p2
  | _ => rqNo 400
end Go.Proofs.YthbjdbookiejeabGreatDoor
