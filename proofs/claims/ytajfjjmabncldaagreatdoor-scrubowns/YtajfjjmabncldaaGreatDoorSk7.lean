/- Texts that the proof leans on, one behind the other: ChkH HgA HhA HgT HgB -/
import Derived.Test.YtajfjjmabncldaaGreatDoorSk3
import Derived.Test.YtajfjjmabncldaaGreatDoorSk4
/- What is told of a beginning is told of more. -/
namespace Go.Proofs.YtajfjjmabncldaaGreatDoor
open Go.RowKit
set_option linter.unusedVariables false

theorem endsP_app (d more : List UInt8) (h : endsP d ≠ (false, 0)) : endsP (d ++ more) = endsP d := by
  match d with
  | [] => exact absurd rfl h
  | [x] =>
    by_cases hx : x = 13
    · subst hx; exact absurd rfl h
    · have e1 : endsP [x] = (false, 20) := by simp [endsP, hx]
      have e2 : endsP ([x] ++ more) = (false, 20) := by simp [endsP, hx]
      rw [e1, e2]
  | x :: y :: r => rfl
theorem endsP_cases (d : List UInt8) : endsP d = (false, 0) ∨ endsP d = (false, 20) ∨ endsP d = (true, 0) := by
  match d with
  | [] => exact .inl rfl
  | [x] => by_cases hx : x = 13 <;> simp [endsP, hx]
  | x :: y :: r => by_cases hx : x = 13 <;> by_cases hy : y = 10 <;> simp [endsP, hx, hy]
theorem oneP_app (m : Nat) (l more : List UInt8) (h : oneP m l ≠ (0, 0, 0, 0)) : oneP m (l ++ more) = oneP m l := by
  rcases cut_cases 256 l with ⟨i, hc, hl, _⟩ | ⟨e, hc⟩
  · have hc2 : cutAt 256 0 (l ++ more) = (some i, 0) := by rw [cutAt_app 256 more l 0 (by rw [hc]; simp), hc]
    rw [oneP_hit hc] at h ⊢
    rw [oneP_hit hc2, List.take_append_of_le_length (by omega)]
    cases hz : szO (l.take i) with
    | none => rfl
    | some k =>
      rw [hz] at h
      rw [oneK_some] at h ⊢
      rw [oneK_some]
      by_cases h1 : m < k
      · rw [if_pos h1, if_pos h1]
      · rw [if_neg h1] at h
        rw [if_neg h1, if_neg h1]
        by_cases h2 : k = 0
        · rw [if_pos h2, if_pos h2]
        · rw [if_neg h2] at h
          rw [if_neg h2, if_neg h2]
          by_cases h3 : l.length - (i + 2) < k
          · rw [if_pos h3] at h; exact absurd rfl h
          · rw [if_neg h3] at h
            rw [if_neg h3, if_neg (by rw [List.length_append]; omega), List.drop_append_of_le_length (by omega), endsP_app]
            intro he
            rw [he] at h
            exact h rfl
  · rw [oneP_miss hc] at h ⊢
    have he : e ≠ 0 := fun c => h (by rw [c])
    exact oneP_miss (by rw [cutAt_app 256 more l 0 (by rw [hc]; simpa using he), hc])
theorem plusN_ne {i : Nat} {r : Nat × Int} (h : plusN i r ≠ (0, 0)) : r ≠ (0, 0) := fun c => h (by rw [c]; rfl)
theorem trailL_app (more : List UInt8) : ∀ (r : Nat) (l : List UInt8), trailL r l ≠ (0, 0) → trailL r (l ++ more) = trailL r l := by
  intro r
  induction r with
  | zero =>
    intro l h
    rcases cut_cases 256 l with ⟨i, hc, hl, _⟩ | ⟨e, hc⟩
    · have hc2 : cutAt 256 0 (l ++ more) = (some i, 0) := by rw [cutAt_app 256 more l 0 (by rw [hc]; simp), hc]
      have ht : (l ++ more).take i = l.take i := List.take_append_of_le_length (by omega)
      by_cases hi : i = 0
      · subst hi; rw [trailL_end hc, trailL_end hc2]
      · cases hf : fldOk (l.take i)
        · rw [trailL_bad hc hi hf, trailL_bad hc2 hi (by rw [ht]; exact hf)]
        · rw [trailL_many hc hi hf, trailL_many hc2 hi (by rw [ht]; exact hf)]
    · rw [trailL_miss hc] at h ⊢
      have he : e ≠ 0 := fun c => h (by rw [c])
      exact trailL_miss (by rw [cutAt_app 256 more l 0 (by rw [hc]; simpa using he), hc])
  | succ r ih =>
    intro l h
    rcases cut_cases 256 l with ⟨i, hc, hl, _⟩ | ⟨e, hc⟩
    · have hc2 : cutAt 256 0 (l ++ more) = (some i, 0) := by rw [cutAt_app 256 more l 0 (by rw [hc]; simp), hc]
      have ht : (l ++ more).take i = l.take i := List.take_append_of_le_length (by omega)
      by_cases hi : i = 0
      · subst hi; rw [trailL_end hc, trailL_end hc2]
      · cases hf : fldOk (l.take i)
        · rw [trailL_bad hc hi hf, trailL_bad hc2 hi (by rw [ht]; exact hf)]
        · rw [trailL_next hc hi hf] at h ⊢
          rw [trailL_next hc2 hi (by rw [ht]; exact hf), List.drop_append_of_le_length (by omega), ih _ (plusN_ne h)]
    · rw [trailL_miss hc] at h ⊢
      have he : e ≠ 0 := fun c => h (by rw [c])
      exact trailL_miss (by rw [cutAt_app 256 more l 0 (by rw [hc]; simpa using he), hc])
def Done (r : List UInt8 × Nat × Int) : Prop := r.2.1 ≠ 0 ∨ r.2.2 ≠ 0
theorem done_plusD {a : List UInt8} {i : Nat} {r : List UInt8 × Nat × Int} (h : Done (plusD a i r)) : Done r := by
  unfold plusD at h
  by_cases c : r.2.1 = 0
  · rw [if_pos c] at h
    rcases h with h | h
    · exact absurd rfl h
    · exact .inr h
  · exact .inl c
theorem decL_app (more : List UInt8) : ∀ (f f' m : Nat) (l : List UInt8), f ≤ f' → Done (decL f m l) → decL f' m (l ++ more) = decL f m l := by
  intro f
  induction f with
  | zero =>
    intro f' m l _ h
    rcases h with h | h <;> exact absurd rfl h
  | succ f ih =>
    intro f' m l hf h
    obtain ⟨g, rfl⟩ : ∃ g, f' = g + 1 := ⟨f' - 1, by omega⟩
    rcases oneP_cases m l with ⟨e, ho⟩ | ⟨i, ho, hi, _⟩ | ⟨i, k, ho, hk, _, hi, _⟩
    · rw [decL_miss ho] at h ⊢
      have he : e ≠ 0 := by
        rcases h with h | h
        · exact absurd rfl h
        · exact h
      exact decL_miss (by rw [oneP_app m l more (by rw [ho]; simpa using he), ho])
    · have ho2 : oneP m (l ++ more) = (0, i + 2, 0, 0) := by rw [oneP_app m l more (by rw [ho]; simp), ho]
      rw [decL_last ho (by omega)] at h ⊢
      rw [decL_last ho2 (by omega), List.drop_append_of_le_length (by omega), trailL_app]
      intro c
      have := done_plusD h
      rw [c] at this
      rcases this with h | h <;> exact absurd rfl h
    · have ho2 : oneP m (l ++ more) = (0, i + 2 + k + 2, i + 2, k) := by rw [oneP_app m l more (by rw [ho]; simp), ho]
      rw [decL_next ho (by omega) (by omega)] at h ⊢
      rw [decL_next ho2 (by omega) (by omega), List.drop_append_of_le_length (by omega), List.take_append_of_le_length (by rw [List.length_drop]; omega), List.drop_append_of_le_length (by omega), ih g _ _ (by omega) (done_plusD h)]
theorem decR_app (m : Nat) (l more : List UInt8) (h : Done (decR m l)) : decR m (l ++ more) = decR m l := by
  unfold decR at *
  exact decL_app more _ _ m l (by rw [List.length_append]; omega) h
theorem decR_ok (m : Nat) (l : List UInt8) : okR (decR m l) := decL_ok _ _ _
end Go.Proofs.YtajfjjmabncldaaGreatDoor

/- Messages, plain: what is told of a beginning is told of more; a head's end; a head with an end of a line put in. -/
namespace Go.Proofs.YtajfjjmabncldaaGreatDoor
open Go.RowKit
set_option linter.unusedVariables false

theorem hst_ne {e : Int} (f : Bool) (h : ¬ e = 0) : hst f e = 400 := by unfold hst; rw [if_neg h]
theorem take_app {l more : List UInt8} {i : Nat} (h : i ≤ l.length) : (l ++ more).take i = l.take i := List.take_append_of_le_length h
theorem drop_app {l more : List UInt8} {i : Nat} (h : i ≤ l.length) : (l ++ more).drop i = l.drop i ++ more := List.drop_append_of_le_length h
def DoneH (R : Fs × Nat × Int) : Prop := R.2.1 ≠ 0 ∨ R.2.2 ≠ 0
theorem done_plusH {a : Fs} {i : Nat} {R : Fs × Nat × Int} (h : DoneH (plusH a i R)) : DoneH R := by
  unfold plusH DoneH at *
  by_cases h0 : R.2.1 = 0
  · rw [if_pos h0] at h
    rcases h with k | k
    · exact absurd rfl k
    · exact .inr k
  · exact .inl h0
theorem fldL_app (more : List UInt8) (f' : Bool) : ∀ (r : Nat) (l : List UInt8), DoneH (fldL false r l) → fldL f' r (l ++ more) = fldL false r l := by
  intro r
  induction r with
  | zero =>
    intro l hd
    rcases cut_cases 2048 l with ⟨i, hc, hl, _⟩ | ⟨e, hc⟩
    · have hc2 := cutAt_app 2048 more l 0 (by rw [hc]; simp)
      rw [hc] at hc2
      by_cases hi : i = 0
      · subst hi; rw [fldL_end hc, fldL_end hc2]
      · have ht : (l ++ more).take i = l.take i := take_app (by omega)
        cases hf : fldOk (l.take i)
        · rw [fldL_bad hc hi hf, fldL_bad hc2 hi (by rw [ht]; exact hf)]
        · rw [fldL_many hc hi hf, fldL_many hc2 hi (by rw [ht]; exact hf)]
    · rw [fldL_miss hc] at hd ⊢
      have h0 : ¬ e = 0 := by
        intro h
        subst h
        rcases hd with k | k
        · exact absurd rfl k
        · exact absurd rfl k
      have hc2 := cutAt_app 2048 more l 0 (by rw [hc]; simpa using h0)
      rw [hc] at hc2
      rw [fldL_miss hc2, hst_ne _ h0, hst_ne _ h0]
  | succ r ih =>
    intro l hd
    rcases cut_cases 2048 l with ⟨i, hc, hl, _⟩ | ⟨e, hc⟩
    · have hc2 := cutAt_app 2048 more l 0 (by rw [hc]; simp)
      rw [hc] at hc2
      by_cases hi : i = 0
      · subst hi; rw [fldL_end hc, fldL_end hc2]
      · have ht : (l ++ more).take i = l.take i := take_app (by omega)
        cases hf : fldOk (l.take i)
        · rw [fldL_bad hc hi hf, fldL_bad hc2 hi (by rw [ht]; exact hf)]
        · rw [fldL_next hc hi hf] at hd ⊢
          rw [fldL_next hc2 hi (by rw [ht]; exact hf), ht, drop_app hl, ih _ (done_plusH hd)]
    · rw [fldL_miss hc] at hd ⊢
      have h0 : ¬ e = 0 := by
        intro h
        subst h
        rcases hd with k | k
        · exact absurd rfl k
        · exact absurd rfl k
      have hc2 := cutAt_app 2048 more l 0 (by rw [hc]; simpa using h0)
      rw [hc] at hc2
      rw [fldL_miss hc2, hst_ne _ h0, hst_ne _ h0]
/-- What is told of a head's beginning. -/
theorem headL_app (st : ByteArray → Int) (b more : List UInt8) (h : DoneH (headL st b)) : headL st (b ++ more) = headL st b ∧ (¬ (headL st b).2.1 = 0 → firstL (b ++ more) = firstL b) := by
  by_cases hf : 2048 ≤ b.length
  · have e1 : (b ++ more).take 2048 = b.take 2048 := take_app hf
    have e2 : fullB (b ++ more) = fullB b := by
      unfold fullB
      rw [decide_eq_true hf, decide_eq_true (by rw [List.length_append]; omega)]
    unfold headL firstL
    rw [e1, e2]
    exact ⟨rfl, fun _ => rfl⟩
  · have e1 : (b ++ more).take 2048 = b ++ more.take (2048 - b.length) := by
      rw [List.take_append, List.take_of_length_le (by omega)]
    have e2 : b.take 2048 = b := List.take_of_length_le (by omega)
    have e3 : fullB b = false := by unfold fullB; rw [decide_eq_false hf]
    generalize more.take (2048 - b.length) = m2 at e1
    rcases cut_cases 2048 b with ⟨i, hc, hl, _⟩ | ⟨e, hc⟩
    · have hc2 := cutAt_app 2048 m2 b 0 (by rw [hc]; simp)
      rw [hc] at hc2
      have ht : (b ++ m2).take i = b.take i := take_app (by omega)
      have hcb : cutAt 2048 0 (b.take 2048) = (some i, 0) := by rw [e2]; exact hc
      have hcm : cutAt 2048 0 ((b ++ more).take 2048) = (some i, 0) := by rw [e1]; exact hc2
      have hfl : firstL (b ++ more) = firstL b := by rw [firstL_hit hcb, firstL_hit hcm, e1, e2, ht]
      by_cases hs : st (tx ((b.take 2048).take i)) = 0
      · have hs2 : st (tx (((b ++ more).take 2048).take i)) = 0 := by rw [e1, ht]; rw [e2] at hs; exact hs
        rw [headL_hit hcb hs, e2, e3] at h ⊢
        rw [headL_hit hcm hs2, e1, drop_app hl, fldL_app _ _ _ _ (done_plusH h)]
        exact ⟨rfl, fun _ => hfl⟩
      · have hs2 : ¬ st (tx (((b ++ more).take 2048).take i)) = 0 := by rw [e1, ht]; rw [e2] at hs; exact hs
        rw [headL_bad hcb hs, headL_bad hcm hs2, e1, e2, ht]
        exact ⟨rfl, fun k => absurd rfl k⟩
    · have hcb : cutAt 2048 0 (b.take 2048) = (none, e) := by rw [e2]; exact hc
      rw [headL_miss hcb, e3] at h ⊢
      have h0 : ¬ e = 0 := by
        intro k
        subst k
        rcases h with k | k
        · exact absurd rfl k
        · exact absurd rfl k
      have hc2 := cutAt_app 2048 m2 b 0 (by rw [hc]; simpa using h0)
      rw [hc] at hc2
      have hcm : cutAt 2048 0 ((b ++ more).take 2048) = (none, e) := by rw [e1]; exact hc2
      rw [headL_miss hcm, hst_ne _ h0, hst_ne _ h0]
      exact ⟨rfl, fun k => absurd rfl k⟩
theorem headQ_app (b more : List UInt8) (h : ¬ (headQ b).n = 0 ∨ ¬ (headQ b).st = 0) : headQ (b ++ more) = headQ b := by
  have hd : DoneH (headL rqSt b) := by
    unfold headQ at h
    by_cases h0 : (headL rqSt b).2.1 = 0
    · rw [if_pos h0] at h
      rcases h with k | k
      · exact absurd rfl k
      · exact .inr k
    · exact .inl h0
  obtain ⟨e1, e2⟩ := headL_app rqSt b more hd
  unfold headQ
  rw [e1]
  by_cases h0 : (headL rqSt b).2.1 = 0
  · rw [if_pos h0, if_pos h0]
  · rw [if_neg h0, if_neg h0, e2 h0]
theorem bodyQ_app (b more : List UInt8) (n : Nat) (size : Int) (coded : Bool) (hn : n ≤ b.length) (h : ¬ (bodyQ b n size coded).2.1 = 0 ∨ ¬ (bodyQ b n size coded).2.2 = 0) (hs : 0 ≤ size) : bodyQ (b ++ more) n size coded = bodyQ b n size coded := by
  unfold bodyQ at *
  rw [drop_app hn]
  cases coded
  · simp only [Bool.false_eq_true, if_false] at h ⊢
    by_cases hl : ((b.length - n : Nat) : Int) < size
    · rw [if_pos hl] at h
      rcases h with k | k
      · exact absurd rfl k
      · exact absurd rfl k
    · rw [if_neg hl, if_neg (by rw [List.length_append]; omega), take_app (by rw [List.length_drop]; omega)]
  · simp only [if_true] at h ⊢
    have hd : Done (decR 4096 (b.drop n)) := by
      by_cases h0 : (decR 4096 (b.drop n)).2.1 = 0
      · rw [if_pos h0] at h
        rcases h with k | k
        · exact absurd rfl k
        · exact .inr k
      · exact .inl h0
    rw [decR_app _ _ _ hd]
theorem bodySt_zero {e : Int} (h : ¬ bodySt e = 0) : ¬ e = 0 := by
  intro k; subst k; exact h rfl
theorem reqQ_app (b more : List UInt8) (h : ¬ (reqQ b).n = 0 ∨ ¬ (reqQ b).st = 0) : reqQ (b ++ more) = reqQ b := by
  have ok := headQ_ok b
  unfold reqQ at h ⊢
  by_cases h0 : (headQ b).n = 0
  · rw [if_pos h0] at h ⊢
    have e := headQ_app b more (.inr (by rcases h with k | k; exact absurd rfl k; exact k))
    rw [e, if_pos h0]
  · rw [if_neg h0] at h ⊢
    have e := headQ_app b more (.inl h0)
    rw [e, if_neg h0]
    have hb : ¬ (bodyOf (headQ b) b).2.1 = 0 ∨ ¬ (bodyOf (headQ b) b).2.2 = 0 := by
      unfold rdOf at h
      by_cases h1 : (bodyOf (headQ b) b).2.1 = 0
      · rw [if_pos h1] at h
        rcases h with k | k
        · exact absurd rfl k
        · exact .inr (bodySt_zero k)
      · exact .inl h1
    have k : bodyOf (headQ b) (b ++ more) = bodyOf (headQ b) b := bodyQ_app b more _ _ _ ok.le.1 hb (told_nn _ _).1
    rw [k]
end Go.Proofs.YtajfjjmabncldaaGreatDoor

/- Heads, plain: a head's last four bytes; what Request tells of a head. -/
namespace Go.Proofs.YtajfjjmabncldaaGreatDoor
open Go.RowKit
set_option linter.unusedVariables false

theorem fldL_tail (full : Bool) : ∀ (r : Nat) (l : List UInt8), ¬ (fldL full r l).2.1 = 0 → ∃ X, [13, 10] ++ l.take (fldL full r l).2.1 = X ++ [13, 10, 13, 10] := by
  intro r
  induction r with
  | zero =>
    intro l h
    rcases cut_cases 2048 l with ⟨i, hc, hl, ht⟩ | ⟨e, hc⟩
    · by_cases hi : i = 0
      · subst hi
        rw [fldL_end hc]
        exact ⟨[], by simp only; rw [show (2 : Nat) = 0 + 2 from rfl, ht]; rfl⟩
      · cases hf : fldOk (l.take i)
        · rw [fldL_bad hc hi hf] at h; exact absurd rfl h
        · rw [fldL_many hc hi hf] at h; exact absurd rfl h
    · rw [fldL_miss hc] at h; exact absurd rfl h
  | succ r ih =>
    intro l h
    rcases cut_cases 2048 l with ⟨i, hc, hl, ht⟩ | ⟨e, hc⟩
    · by_cases hi : i = 0
      · subst hi
        rw [fldL_end hc]
        exact ⟨[], by simp only; rw [show (2 : Nat) = 0 + 2 from rfl, ht]; rfl⟩
      · cases hf : fldOk (l.take i)
        · rw [fldL_bad hc hi hf] at h; exact absurd rfl h
        · rw [fldL_next hc hi hf] at h ⊢
          unfold plusH at h ⊢
          by_cases h0 : (fldL full r (l.drop (i + 2))).2.1 = 0
          · rw [if_pos h0] at h; exact absurd rfl h
          · rw [if_neg h0]
            obtain ⟨X, hX⟩ := ih _ h0
            refine ⟨[13, 10] ++ l.take i ++ X, ?_⟩
            simp only
            rw [List.take_add, ht, List.append_assoc, hX]
            simp only [List.append_assoc]
    · rw [fldL_miss hc] at h; exact absurd rfl h
theorem headL_tail (st : ByteArray → Int) (b : List UInt8) (h : ¬ (headL st b).2.1 = 0) : ∃ X, b.take (headL st b).2.1 = X ++ [13, 10, 13, 10] := by
  have ok := headL_ok st b
  have hle : (headL st b).2.1 ≤ 2048 := by have := ok.le; omega
  have e : b.take (headL st b).2.1 = (b.take 2048).take (headL st b).2.1 := by rw [List.take_take, Nat.min_eq_left hle]
  rw [e]
  rcases cut_cases 2048 (b.take 2048) with ⟨i, hc, hl, ht⟩ | ⟨e, hc⟩
  · by_cases hs : st (tx ((b.take 2048).take i)) = 0
    · rw [headL_hit hc hs] at h ⊢
      unfold plusH at h ⊢
      by_cases h0 : (fldL (fullB b) 40 ((b.take 2048).drop (i + 2))).2.1 = 0
      · rw [if_pos h0] at h; exact absurd rfl h
      · rw [if_neg h0]
        obtain ⟨X, hX⟩ := fldL_tail _ _ _ h0
        refine ⟨(b.take 2048).take i ++ X, ?_⟩
        simp only
        rw [List.take_add, ht, List.append_assoc, List.append_assoc, ← hX]
    · rw [headL_bad hc hs] at h; exact absurd rfl h
  · rw [headL_miss hc] at h; exact absurd rfl h
theorem headQ_n {b : List UInt8} (h : ¬ (headQ b).n = 0) : (headQ b).n = (headL rqSt b).2.1 := by
  unfold headQ at h ⊢
  by_cases h0 : (headL rqSt b).2.1 = 0
  · rw [if_pos h0] at h; exact absurd rfl h
  · rw [if_neg h0] at h ⊢
    by_cases h1 : headSt (headL rqSt b).1 (rqP (firstL b)).minor = 0
    · rw [if_pos h1]
    · rw [if_neg h1] at h; exact absurd rfl h
theorem headQ_tail {b : List UInt8} (h : ¬ (headQ b).n = 0) : ∃ X, b.take (headQ b).n = X ++ [13, 10, 13, 10] := by
  have e := headQ_n h
  rw [e]
  exact headL_tail rqSt b (by rw [← e]; exact h)
/-- The last four bytes of a head. -/
theorem headQ_end {b : List UInt8} (h : ¬ (headQ b).n = 0) : ∃ j, (headQ b).n = j + 4 ∧ (b.take (headQ b).n).drop j = [13, 10, 13, 10] := by
  obtain ⟨X, hX⟩ := headQ_tail h
  have hn := (headQ_ok b).le.1
  have hl : (b.take (headQ b).n).length = (headQ b).n := by rw [List.length_take]; omega
  rw [hX, List.length_append] at hl
  refine ⟨X.length, hl.symm, ?_⟩
  rw [hX, List.drop_left]
theorem bodyQ_cases (b : List UInt8) (n : Nat) (size : Int) (coded : Bool) : (bodyQ b n size coded).2.1 = 0 ∨ n ≤ (bodyQ b n size coded).2.1 := by
  unfold bodyQ
  cases coded
  · simp only [Bool.false_eq_true, if_false]
    by_cases h : ((b.length - n : Nat) : Int) < size
    · rw [if_pos h]; exact .inl rfl
    · rw [if_neg h]; exact .inr (Nat.le_add_right _ _)
  · simp only [if_true]
    by_cases h : (decR 4096 (b.drop n)).2.1 = 0
    · rw [if_pos h]; exact .inl rfl
    · rw [if_neg h]; exact .inr (Nat.le_add_right _ _)
/-- What Request tells behind a head. -/
theorem reqQ_cases (b : List UInt8) : ((headQ b).n = 0 ∧ reqQ b = rdNo (headQ b).st) ∨ (¬ (headQ b).n = 0 ∧ (headQ b).st = 0 ∧ ((∃ s, reqQ b = rdNo s ∧ (s = 0 ∨ s = 400 ∨ s = 413)) ∨ ∃ x n, reqQ b = ⟨(headQ b).m, (headQ b).t, (headQ b).minor, (headQ b).fs, x, n, 0⟩ ∧ (headQ b).n ≤ n ∧ ¬ n = 0)) := by
  unfold reqQ
  by_cases h0 : (headQ b).n = 0
  · rw [if_pos h0]; exact .inl ⟨h0, rfl⟩
  · rw [if_neg h0]
    refine .inr ⟨h0, (headQ_ok b).st h0, ?_⟩
    unfold rdOf
    by_cases h1 : (bodyOf (headQ b) b).2.1 = 0
    · rw [if_pos h1]
      refine .inl ⟨_, rfl, ?_⟩
      unfold bodySt
      split
      · exact .inl rfl
      · split
        · exact .inr (.inr rfl)
        · exact .inr (.inl rfl)
    · rw [if_neg h1]
      refine .inr ⟨_, _, rfl, ?_, h1⟩
      rcases bodyQ_cases b (headQ b).n (reqF (headQ b).fs (headQ b).minor).1 (reqF (headQ b).fs (headQ b).minor).2.1 with k | k
      · exact absurd k h1
      · exact k
end Go.Proofs.YtajfjjmabncldaaGreatDoor

/- Messages, plain: the three ways of a request. -/
namespace Go.Proofs.YtajfjjmabncldaaGreatDoor
open Go.RowKit
set_option linter.unusedVariables false

theorem bodyQ_le (b : List UInt8) (n : Nat) (size : Int) (coded : Bool) (hn : n ≤ b.length) (hs : 0 ≤ size) : (bodyQ b n size coded).2.1 ≤ b.length := by
  unfold bodyQ
  cases coded
  · simp only [Bool.false_eq_true, if_false]
    by_cases h : ((b.length - n : Nat) : Int) < size
    · rw [if_pos h]; exact Nat.zero_le _
    · rw [if_neg h]; simp only; omega
  · simp only [if_true]
    have k := decR_le 4096 (b.drop n)
    rw [List.length_drop] at k
    by_cases h : (decR 4096 (b.drop n)).2.1 = 0
    · rw [if_pos h]; exact Nat.zero_le _
    · rw [if_neg h]; simp only; omega
/-- The three ways of a request. -/
theorem reqQ_three (b : List UInt8) : reqQ b = rdNo 0 ∨ (∃ s, reqQ b = rdNo s ∧ ¬ s = 0) ∨ ∃ m t mi fs x n, reqQ b = ⟨m, t, mi, fs, x, n, 0⟩ ∧ ¬ n = 0 ∧ n ≤ b.length := by
  have ok := headQ_ok b
  unfold reqQ
  by_cases h0 : (headQ b).n = 0
  · rw [if_pos h0]
    by_cases hs : (headQ b).st = 0
    · rw [hs]; exact .inl rfl
    · exact .inr (.inl ⟨_, rfl, hs⟩)
  · rw [if_neg h0]
    have hle : (bodyOf (headQ b) b).2.1 ≤ b.length := bodyQ_le b _ _ _ ok.le.1 (told_nn _ _).1
    unfold rdOf
    by_cases h1 : (bodyOf (headQ b) b).2.1 = 0
    · rw [if_pos h1]
      by_cases hs : bodySt (bodyOf (headQ b) b).2.2 = 0
      · rw [hs]; exact .inl rfl
      · exact .inr (.inl ⟨_, rfl, hs⟩)
    · rw [if_neg h1]
      exact .inr (.inr ⟨_, _, _, _, _, _, rfl, h1, hle⟩)
end Go.Proofs.YtajfjjmabncldaaGreatDoor

/- Messages, plain: what is told of a response's beginning is told of more; how far what is read goes. -/
namespace Go.Proofs.YtajfjjmabncldaaGreatDoor
open Go.RowKit
set_option linter.unusedVariables false

theorem respF_nn (m : ByteArray) (code minor : Int) (fs : Fs) : 0 ≤ (respF m code minor fs).2.1 := by
  have k := told_nn fs minor
  unfold respF
  split
  · exact Int.le_refl _
  · exact k.1
theorem respQ_three (b : List UInt8) (m : ByteArray) (e : Bool) : (∃ ok, respQ b m e = rpNo ok) ∨ ∃ code r mi fs x n, respQ b m e = ⟨code, r, mi, fs, x, n, true⟩ ∧ ¬ n = 0 ∧ n ≤ b.length := by
  unfold respQ respOf
  by_cases h0 : (rresQ b m e).n = 0
  · rw [if_pos h0]; exact .inl ⟨_, rfl⟩
  · rw [if_neg h0]
    refine .inr ⟨_, _, _, _, _, _, rfl, h0, ?_⟩
    have ok := headL_ok stSt b
    have hle : (headL stSt b).2.1 ≤ b.length := by have := ok.le; omega
    unfold rresQ at h0 ⊢
    by_cases h1 : (headL stSt b).2.1 = 0
    · rw [if_pos h1]; exact Nat.zero_le _
    · rw [if_neg h1]
      have hnn := respF_nn m (statP (firstL b)).code (statP (firstL b)).minor (headL stSt b).1
      generalize respF m (statP (firstL b)).code (statP (firstL b)).minor (headL stSt b).1 = K at *
      unfold rbodyQ
      split
      · split
        · split
          · exact Nat.le_refl _
          · exact Nat.zero_le _
        · exact Nat.zero_le _
      · split
        · exact Nat.zero_le _
        · exact bodyQ_le b _ _ _ hle hnn
theorem respQ_app (b more : List UInt8) (m : ByteArray) (h : ¬ (respQ b m false).n = 0 ∨ (respQ b m false).ok = false) : respQ (b ++ more) m false = respQ b m false := by
  have ok := headL_ok stSt b
  have hle : (headL stSt b).2.1 ≤ b.length := by have := ok.le; omega
  have key : rresQ (b ++ more) m false = rresQ b m false := by
    unfold respQ respOf at h
    have hR : ¬ (rresQ b m false).n = 0 ∨ (rresQ b m false).ok = false := by
      by_cases h0 : (rresQ b m false).n = 0
      · rw [if_pos h0] at h
        rcases h with k | k
        · exact absurd rfl k
        · refine .inr ?_
          have k2 : ((rresQ b m false).ok && !false) = false := k
          simpa using k2
      · exact .inl h0
    clear h
    unfold rresQ at hR ⊢
    by_cases h1 : (headL stSt b).2.1 = 0
    · rw [if_pos h1] at hR
      have hs : ¬ (headL stSt b).2.2 = 0 := by
        rcases hR with k | k
        · exact absurd rfl k
        · exact of_decide_eq_false k
      obtain ⟨e1, _⟩ := headL_app stSt b more (.inr hs)
      rw [e1, if_pos h1, if_pos h1]
    · rw [if_neg h1] at hR
      obtain ⟨e1, e2⟩ := headL_app stSt b more (.inl h1)
      rw [e1, if_neg h1, if_neg h1, e2 h1]
      have hnn := respF_nn m (statP (firstL b)).code (statP (firstL b)).minor (headL stSt b).1
      generalize respF m (statP (firstL b)).code (statP (firstL b)).minor (headL stSt b).1 = K at *
      unfold rbodyQ at hR ⊢
      by_cases h3 : K.1 = 3
      · rw [if_pos h3] at hR
        rw [if_pos h3, if_pos h3]
        by_cases h4 : ((b.length - (headL stSt b).2.1 : Nat) : Int) ≤ 4096
        · rw [if_pos h4] at hR
          simp only [Bool.false_eq_true, if_false] at hR
          rcases hR with k | k
          · exact absurd rfl k
          · exact absurd k (by unfold rpNo; decide)
        · rw [if_neg h4, if_neg (by rw [List.length_append]; omega)]
      · rw [if_neg h3] at hR
        rw [if_neg h3, if_neg h3]
        cases hr : K.2.2
        · simp only [if_true]
        · rw [hr] at hR
          simp only [Bool.true_eq_false, if_false] at hR ⊢
          rw [bodyQ_app b more _ _ _ hle ?_ hnn]
          rcases hR with k | k
          · exact .inl k
          · exact .inr (of_decide_eq_false k)
  unfold respQ
  rw [key]
end Go.Proofs.YtajfjjmabncldaaGreatDoor
