/- Messages, plain: what is told of a beginning is told of more; a head's end; a head with an end of a line put in. -/
import Derived.Test.YthbjdbookiejeabGreatDoorHtA
import Derived.Test.YthbjdbookiejeabGreatDoorChkH
namespace Go.Proofs.YthbjdbookiejeabGreatDoor
open Go.RowKit
set_option linter.unusedVariables false

theorem hst_ne {e : Int} (f : Bool) (h : ¬ e = 0) : hst f e = 400 := by unfold hst; rw [if_neg h]
theorem take_app {l more : List UInt8} {i : Nat} (h : i ≤ l.length) : (l ++ more).take i = l.take i := List.take_append_of_le_length h
theorem drop_app {l more : List UInt8} {i : Nat} (h : i ≤ l.length) : (l ++ more).drop i = l.drop i ++ more := List.drop_append_of_le_length h
def DoneH (R : Fs × Nat × Int) : Prop := R.2.1 ≠ 0 ∨ R.2.2 ≠ 0
theorem done_plusH {a : Fs} {i : Nat} {R : Fs × Nat × Int} (h : DoneH (plusH a i R)) : DoneH R := by
  unfold plusH DoneH at *
  by_cases h0 : R.2.1 = 0
  · rw [if_pos h0] at h
    rcases h with k | k
    · exact absurd rfl k
    · exact .inr k
  · exact .inl h0
theorem fldL_app (more : List UInt8) (f' : Bool) : ∀ (r : Nat) (l : List UInt8), DoneH (fldL false r l) → fldL f' r (l ++ more) = fldL false r l := by
  intro r
  induction r with
  | zero =>
    intro l hd
    rcases cut_cases 2048 l with ⟨i, hc, hl, _⟩ | ⟨e, hc⟩
    · have hc2 := cutAt_app 2048 more l 0 (by rw [hc]; simp)
      rw [hc] at hc2
      by_cases hi : i = 0
      · subst hi; rw [fldL_end hc, fldL_end hc2]
      · have ht : (l ++ more).take i = l.take i := take_app (by omega)
        cases hf : fldOk (l.take i)
        · rw [fldL_bad hc hi hf, fldL_bad hc2 hi (by rw [ht]; exact hf)]
        · rw [fldL_many hc hi hf, fldL_many hc2 hi (by rw [ht]; exact hf)]
    · rw [fldL_miss hc] at hd ⊢
      have h0 : ¬ e = 0 := by
        intro h
        subst h
        rcases hd with k | k
        · exact absurd rfl k
        · exact absurd rfl k
      have hc2 := cutAt_app 2048 more l 0 (by rw [hc]; simpa using h0)
      rw [hc] at hc2
      rw [fldL_miss hc2, hst_ne _ h0, hst_ne _ h0]
  | succ r ih =>
    intro l hd
    rcases cut_cases 2048 l with ⟨i, hc, hl, _⟩ | ⟨e, hc⟩
    · have hc2 := cutAt_app 2048 more l 0 (by rw [hc]; simp)
      rw [hc] at hc2
      by_cases hi : i = 0
      · subst hi; rw [fldL_end hc, fldL_end hc2]
      · have ht : (l ++ more).take i = l.take i := take_app (by omega)
        cases hf : fldOk (l.take i)
        · rw [fldL_bad hc hi hf, fldL_bad hc2 hi (by rw [ht]; exact hf)]
        · rw [fldL_next hc hi hf] at hd ⊢
          rw [fldL_next hc2 hi (by rw [ht]; exact hf), ht, drop_app hl, ih _ (done_plusH hd)]
    · rw [fldL_miss hc] at hd ⊢
      have h0 : ¬ e = 0 := by
        intro h
        subst h
        rcases hd with k | k
        · exact absurd rfl k
        · exact absurd rfl k
      have hc2 := cutAt_app 2048 more l 0 (by rw [hc]; simpa using h0)
      rw [hc] at hc2
      rw [fldL_miss hc2, hst_ne _ h0, hst_ne _ h0]
/-- What is told of a head's beginning. -/
theorem headL_app (st : ByteArray → Int) (b more : List UInt8) (h : DoneH (headL st b)) : headL st (b ++ more) = headL st b ∧ (¬ (headL st b).2.1 = 0 → firstL (b ++ more) = firstL b) := by
  by_cases hf : 2048 ≤ b.length
  · have e1 : (b ++ more).take 2048 = b.take 2048 := take_app hf
    have e2 : fullB (b ++ more) = fullB b := by
      unfold fullB
      rw [decide_eq_true hf, decide_eq_true (by rw [List.length_append]; omega)]
    unfold headL firstL
    rw [e1, e2]
    exact ⟨rfl, fun _ => rfl⟩
  · have e1 : (b ++ more).take 2048 = b ++ more.take (2048 - b.length) := by
      rw [List.take_append, List.take_of_length_le (by omega)]
    have e2 : b.take 2048 = b := List.take_of_length_le (by omega)
    have e3 : fullB b = false := by unfold fullB; rw [decide_eq_false hf]
    generalize more.take (2048 - b.length) = m2 at e1
    rcases cut_cases 2048 b with ⟨i, hc, hl, _⟩ | ⟨e, hc⟩
    · have hc2 := cutAt_app 2048 m2 b 0 (by rw [hc]; simp)
      rw [hc] at hc2
      have ht : (b ++ m2).take i = b.take i := take_app (by omega)
      have hcb : cutAt 2048 0 (b.take 2048) = (some i, 0) := by rw [e2]; exact hc
      have hcm : cutAt 2048 0 ((b ++ more).take 2048) = (some i, 0) := by rw [e1]; exact hc2
      have hfl : firstL (b ++ more) = firstL b := by rw [firstL_hit hcb, firstL_hit hcm, e1, e2, ht]
      by_cases hs : st (tx ((b.take 2048).take i)) = 0
      · have hs2 : st (tx (((b ++ more).take 2048).take i)) = 0 := by rw [e1, ht]; rw [e2] at hs; exact hs
        rw [headL_hit hcb hs, e2, e3] at h ⊢
        rw [headL_hit hcm hs2, e1, drop_app hl, fldL_app _ _ _ _ (done_plusH h)]
        exact ⟨rfl, fun _ => hfl⟩
      · have hs2 : ¬ st (tx (((b ++ more).take 2048).take i)) = 0 := by rw [e1, ht]; rw [e2] at hs; exact hs
        rw [headL_bad hcb hs, headL_bad hcm hs2, e1, e2, ht]
        exact ⟨rfl, fun k => absurd rfl k⟩
    · have hcb : cutAt 2048 0 (b.take 2048) = (none, e) := by rw [e2]; exact hc
      rw [headL_miss hcb, e3] at h ⊢
      have h0 : ¬ e = 0 := by
        intro k
        subst k
        rcases h with k | k
        · exact absurd rfl k
        · exact absurd rfl k
      have hc2 := cutAt_app 2048 m2 b 0 (by rw [hc]; simpa using h0)
      rw [hc] at hc2
      have hcm : cutAt 2048 0 ((b ++ more).take 2048) = (none, e) := by rw [e1]; exact hc2
      rw [headL_miss hcm, hst_ne _ h0, hst_ne _ h0]
      exact ⟨rfl, fun k => absurd rfl k⟩
theorem headQ_app (b more : List UInt8) (h : ¬ (headQ b).n = 0 ∨ ¬ (headQ b).st = 0) : headQ (b ++ more) = headQ b := by
  have hd : DoneH (headL rqSt b) := by
    unfold headQ at h
    by_cases h0 : (headL rqSt b).2.1 = 0
    · rw [if_pos h0] at h
      rcases h with k | k
      · exact absurd rfl k
      · exact .inr k
    · exact .inl h0
  obtain ⟨e1, e2⟩ := headL_app rqSt b more hd
  unfold headQ
  rw [e1]
  by_cases h0 : (headL rqSt b).2.1 = 0
  · rw [if_pos h0, if_pos h0]
  · rw [if_neg h0, if_neg h0, e2 h0]
theorem bodyQ_app (b more : List UInt8) (n : Nat) (size : Int) (coded : Bool) (hn : n ≤ b.length) (h : ¬ (bodyQ b n size coded).2.1 = 0 ∨ ¬ (bodyQ b n size coded).2.2 = 0) (hs : 0 ≤ size) : bodyQ (b ++ more) n size coded = bodyQ b n size coded := by
  unfold bodyQ at *
  rw [drop_app hn]
  cases coded
  · simp only [Bool.false_eq_true, if_false] at h ⊢
    by_cases hl : ((b.length - n : Nat) : Int) < size
    · rw [if_pos hl] at h
      rcases h with k | k
      · exact absurd rfl k
      · exact absurd rfl k
    · rw [if_neg hl, if_neg (by rw [List.length_append]; omega), take_app (by rw [List.length_drop]; omega)]
  · simp only [if_true] at h ⊢
    have hd : Done (decR 4096 (b.drop n)) := by
      by_cases h0 : (decR 4096 (b.drop n)).2.1 = 0
      · rw [if_pos h0] at h
        rcases h with k | k
        · exact absurd rfl k
        · exact .inr k
      · exact .inl h0
    rw [decR_app _ _ _ hd]
theorem bodySt_zero {e : Int} (h : ¬ bodySt e = 0) : ¬ e = 0 := by
  intro k; subst k; exact h rfl
theorem reqQ_app (b more : List UInt8) (h : ¬ (reqQ b).n = 0 ∨ ¬ (reqQ b).st = 0) : reqQ (b ++ more) = reqQ b := by
  have ok := headQ_ok b
  unfold reqQ at h ⊢
  by_cases h0 : (headQ b).n = 0
  · rw [if_pos h0] at h ⊢
    have e := headQ_app b more (.inr (by rcases h with k | k; exact absurd rfl k; exact k))
    rw [e, if_pos h0]
  · rw [if_neg h0] at h ⊢
    have e := headQ_app b more (.inl h0)
    rw [e, if_neg h0]
    have hb : ¬ (bodyOf (headQ b) b).2.1 = 0 ∨ ¬ (bodyOf (headQ b) b).2.2 = 0 := by
      unfold rdOf at h
      by_cases h1 : (bodyOf (headQ b) b).2.1 = 0
      · rw [if_pos h1] at h
        rcases h with k | k
        · exact absurd rfl k
        · exact .inr (bodySt_zero k)
      · exact .inl h1
    have k : bodyOf (headQ b) (b ++ more) = bodyOf (headQ b) b := bodyQ_app b more _ _ _ ok.le.1 hb (told_nn _ _).1
    rw [k]
end Go.Proofs.YthbjdbookiejeabGreatDoor
