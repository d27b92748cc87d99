/- Texts that the proof leans on, one behind the other: CnD ChkH HgA HhA HgT CnE CnF CnFr CnFs CnFt CnG CnH -/
import Derived.Test.YtemmmdhmkegaaaaGreatDoorCb2
import Derived.Test.YtemmmdhmkegaaaaGreatDoorCb4
import Derived.Test.YtemmmdhmkegaaaaGreatDoorCb3
/- Conn: front, Next, Waits, where no more has come than front looks at at first. -/
namespace Go.Proofs.YtemmmdhmkegaaaaGreatDoor
open Go.RowKit
set_option linter.unusedVariables false

section
variable {F : Nat → Prop} {w0 w : World} {mb : Nat} {rs : List Nat} {Ls : List (List UInt8)} {m : Int} {b i : Nat} {s : Cs}
end
end Go.Proofs.YtemmmdhmkegaaaaGreatDoor

/- What is told of a beginning is told of more. -/
namespace Go.Proofs.YtemmmdhmkegaaaaGreatDoor
open Go.RowKit
set_option linter.unusedVariables false

theorem endsP_app (d more : List UInt8) (h : endsP d ≠ (false, 0)) : endsP (d ++ more) = endsP d := by
  match d with
  | [] => exact absurd rfl h
  | [x] =>
    by_cases hx : x = 13
    · subst hx; exact absurd rfl h
    · have e1 : endsP [x] = (false, 20) := by simp [endsP, hx]
      have e2 : endsP ([x] ++ more) = (false, 20) := by simp [endsP, hx]
      rw [e1, e2]
  | x :: y :: r => rfl
theorem oneP_app (m : Nat) (l more : List UInt8) (h : oneP m l ≠ (0, 0, 0, 0)) : oneP m (l ++ more) = oneP m l := by
  rcases cut_cases 256 l with ⟨i, hc, hl, _⟩ | ⟨e, hc⟩
  · have hc2 : cutAt 256 0 (l ++ more) = (some i, 0) := by rw [cutAt_app 256 more l 0 (by rw [hc]; simp), hc]
    rw [oneP_hit hc] at h ⊢
    rw [oneP_hit hc2, List.take_append_of_le_length (by omega)]
    cases hz : szO (l.take i) with
    | none => rfl
    | some k =>
      rw [hz] at h
      rw [oneK_some] at h ⊢
      rw [oneK_some]
      by_cases h1 : m < k
      · rw [if_pos h1, if_pos h1]
      · rw [if_neg h1] at h
        rw [if_neg h1, if_neg h1]
        by_cases h2 : k = 0
        · rw [if_pos h2, if_pos h2]
        · rw [if_neg h2] at h
          rw [if_neg h2, if_neg h2]
          by_cases h3 : l.length - (i + 2) < k
          · rw [if_pos h3] at h; exact absurd rfl h
          · rw [if_neg h3] at h
            rw [if_neg h3, if_neg (by rw [List.length_append]; omega), List.drop_append_of_le_length (by omega), endsP_app]
            intro he
            rw [he] at h
            exact h rfl
  · rw [oneP_miss hc] at h ⊢
    have he : e ≠ 0 := fun c => h (by rw [c])
    exact oneP_miss (by rw [cutAt_app 256 more l 0 (by rw [hc]; simpa using he), hc])
theorem plusN_ne {i : Nat} {r : Nat × Int} (h : plusN i r ≠ (0, 0)) : r ≠ (0, 0) := fun c => h (by rw [c]; rfl)
theorem trailL_app (more : List UInt8) : ∀ (r : Nat) (l : List UInt8), trailL r l ≠ (0, 0) → trailL r (l ++ more) = trailL r l := by
  intro r
  induction r with
  | zero =>
    intro l h
    rcases cut_cases 256 l with ⟨i, hc, hl, _⟩ | ⟨e, hc⟩
    · have hc2 : cutAt 256 0 (l ++ more) = (some i, 0) := by rw [cutAt_app 256 more l 0 (by rw [hc]; simp), hc]
      have ht : (l ++ more).take i = l.take i := List.take_append_of_le_length (by omega)
      by_cases hi : i = 0
      · subst hi; rw [trailL_end hc, trailL_end hc2]
      · cases hf : fldOk (l.take i)
        · rw [trailL_bad hc hi hf, trailL_bad hc2 hi (by rw [ht]; exact hf)]
        · rw [trailL_many hc hi hf, trailL_many hc2 hi (by rw [ht]; exact hf)]
    · rw [trailL_miss hc] at h ⊢
      have he : e ≠ 0 := fun c => h (by rw [c])
      exact trailL_miss (by rw [cutAt_app 256 more l 0 (by rw [hc]; simpa using he), hc])
  | succ r ih =>
    intro l h
    rcases cut_cases 256 l with ⟨i, hc, hl, _⟩ | ⟨e, hc⟩
    · have hc2 : cutAt 256 0 (l ++ more) = (some i, 0) := by rw [cutAt_app 256 more l 0 (by rw [hc]; simp), hc]
      have ht : (l ++ more).take i = l.take i := List.take_append_of_le_length (by omega)
      by_cases hi : i = 0
      · subst hi; rw [trailL_end hc, trailL_end hc2]
      · cases hf : fldOk (l.take i)
        · rw [trailL_bad hc hi hf, trailL_bad hc2 hi (by rw [ht]; exact hf)]
        · rw [trailL_next hc hi hf] at h ⊢
          rw [trailL_next hc2 hi (by rw [ht]; exact hf), List.drop_append_of_le_length (by omega), ih _ (plusN_ne h)]
    · rw [trailL_miss hc] at h ⊢
      have he : e ≠ 0 := fun c => h (by rw [c])
      exact trailL_miss (by rw [cutAt_app 256 more l 0 (by rw [hc]; simpa using he), hc])
def Done (r : List UInt8 × Nat × Int) : Prop := r.2.1 ≠ 0 ∨ r.2.2 ≠ 0
theorem done_plusD {a : List UInt8} {i : Nat} {r : List UInt8 × Nat × Int} (h : Done (plusD a i r)) : Done r := by
  unfold plusD at h
  by_cases c : r.2.1 = 0
  · rw [if_pos c] at h
    rcases h with h | h
    · exact absurd rfl h
    · exact .inr h
  · exact .inl c
theorem decL_app (more : List UInt8) : ∀ (f f' m : Nat) (l : List UInt8), f ≤ f' → Done (decL f m l) → decL f' m (l ++ more) = decL f m l := by
  intro f
  induction f with
  | zero =>
    intro f' m l _ h
    rcases h with h | h <;> exact absurd rfl h
  | succ f ih =>
    intro f' m l hf h
    obtain ⟨g, rfl⟩ : ∃ g, f' = g + 1 := ⟨f' - 1, by omega⟩
    rcases oneP_cases m l with ⟨e, ho⟩ | ⟨i, ho, hi, _⟩ | ⟨i, k, ho, hk, _, hi, _⟩
    · rw [decL_miss ho] at h ⊢
      have he : e ≠ 0 := by
        rcases h with h | h
        · exact absurd rfl h
        · exact h
      exact decL_miss (by rw [oneP_app m l more (by rw [ho]; simpa using he), ho])
    · have ho2 : oneP m (l ++ more) = (0, i + 2, 0, 0) := by rw [oneP_app m l more (by rw [ho]; simp), ho]
      rw [decL_last ho (by omega)] at h ⊢
      rw [decL_last ho2 (by omega), List.drop_append_of_le_length (by omega), trailL_app]
      intro c
      have := done_plusD h
      rw [c] at this
      rcases this with h | h <;> exact absurd rfl h
    · have ho2 : oneP m (l ++ more) = (0, i + 2 + k + 2, i + 2, k) := by rw [oneP_app m l more (by rw [ho]; simp), ho]
      rw [decL_next ho (by omega) (by omega)] at h ⊢
      rw [decL_next ho2 (by omega) (by omega), List.drop_append_of_le_length (by omega), List.take_append_of_le_length (by rw [List.length_drop]; omega), List.drop_append_of_le_length (by omega), ih g _ _ (by omega) (done_plusD h)]
theorem decR_app (m : Nat) (l more : List UInt8) (h : Done (decR m l)) : decR m (l ++ more) = decR m l := by
  unfold decR at *
  exact decL_app more _ _ m l (by rw [List.length_append]; omega) h
end Go.Proofs.YtemmmdhmkegaaaaGreatDoor

/- Messages, plain: what is told of a beginning is told of more; a head's end; a head with an end of a line put in. -/
namespace Go.Proofs.YtemmmdhmkegaaaaGreatDoor
open Go.RowKit
set_option linter.unusedVariables false

theorem hst_ne {e : Int} (f : Bool) (h : ¬ e = 0) : hst f e = 400 := by unfold hst; rw [if_neg h]
theorem take_app {l more : List UInt8} {i : Nat} (h : i ≤ l.length) : (l ++ more).take i = l.take i := List.take_append_of_le_length h
theorem drop_app {l more : List UInt8} {i : Nat} (h : i ≤ l.length) : (l ++ more).drop i = l.drop i ++ more := List.drop_append_of_le_length h
def DoneH (R : Fs × Nat × Int) : Prop := R.2.1 ≠ 0 ∨ R.2.2 ≠ 0
theorem done_plusH {a : Fs} {i : Nat} {R : Fs × Nat × Int} (h : DoneH (plusH a i R)) : DoneH R := by
  unfold plusH DoneH at *
  by_cases h0 : R.2.1 = 0
  · rw [if_pos h0] at h
    rcases h with k | k
    · exact absurd rfl k
    · exact .inr k
  · exact .inl h0
theorem fldL_app (more : List UInt8) (f' : Bool) : ∀ (r : Nat) (l : List UInt8), DoneH (fldL false r l) → fldL f' r (l ++ more) = fldL false r l := by
  intro r
  induction r with
  | zero =>
    intro l hd
    rcases cut_cases 2048 l with ⟨i, hc, hl, _⟩ | ⟨e, hc⟩
    · have hc2 := cutAt_app 2048 more l 0 (by rw [hc]; simp)
      rw [hc] at hc2
      by_cases hi : i = 0
      · subst hi; rw [fldL_end hc, fldL_end hc2]
      · have ht : (l ++ more).take i = l.take i := take_app (by omega)
        cases hf : fldOk (l.take i)
        · rw [fldL_bad hc hi hf, fldL_bad hc2 hi (by rw [ht]; exact hf)]
        · rw [fldL_many hc hi hf, fldL_many hc2 hi (by rw [ht]; exact hf)]
    · rw [fldL_miss hc] at hd ⊢
      have h0 : ¬ e = 0 := by
        intro h
        subst h
        rcases hd with k | k
        · exact absurd rfl k
        · exact absurd rfl k
      have hc2 := cutAt_app 2048 more l 0 (by rw [hc]; simpa using h0)
      rw [hc] at hc2
      rw [fldL_miss hc2, hst_ne _ h0, hst_ne _ h0]
  | succ r ih =>
    intro l hd
    rcases cut_cases 2048 l with ⟨i, hc, hl, _⟩ | ⟨e, hc⟩
    · have hc2 := cutAt_app 2048 more l 0 (by rw [hc]; simp)
      rw [hc] at hc2
      by_cases hi : i = 0
      · subst hi; rw [fldL_end hc, fldL_end hc2]
      · have ht : (l ++ more).take i = l.take i := take_app (by omega)
        cases hf : fldOk (l.take i)
        · rw [fldL_bad hc hi hf, fldL_bad hc2 hi (by rw [ht]; exact hf)]
        · rw [fldL_next hc hi hf] at hd ⊢
          rw [fldL_next hc2 hi (by rw [ht]; exact hf), ht, drop_app hl, ih _ (done_plusH hd)]
    · rw [fldL_miss hc] at hd ⊢
      have h0 : ¬ e = 0 := by
        intro h
        subst h
        rcases hd with k | k
        · exact absurd rfl k
        · exact absurd rfl k
      have hc2 := cutAt_app 2048 more l 0 (by rw [hc]; simpa using h0)
      rw [hc] at hc2
      rw [fldL_miss hc2, hst_ne _ h0, hst_ne _ h0]
theorem headL_app (st : ByteArray → Int) (b more : List UInt8) (h : DoneH (headL st b)) : headL st (b ++ more) = headL st b ∧ (¬ (headL st b).2.1 = 0 → firstL (b ++ more) = firstL b) := by
  by_cases hf : 2048 ≤ b.length
  · have e1 : (b ++ more).take 2048 = b.take 2048 := take_app hf
    have e2 : fullB (b ++ more) = fullB b := by
      unfold fullB
      rw [decide_eq_true hf, decide_eq_true (by rw [List.length_append]; omega)]
    unfold headL firstL
    rw [e1, e2]
    exact ⟨rfl, fun _ => rfl⟩
  · have e1 : (b ++ more).take 2048 = b ++ more.take (2048 - b.length) := by
      rw [List.take_append, List.take_of_length_le (by omega)]
    have e2 : b.take 2048 = b := List.take_of_length_le (by omega)
    have e3 : fullB b = false := by unfold fullB; rw [decide_eq_false hf]
    generalize more.take (2048 - b.length) = m2 at e1
    rcases cut_cases 2048 b with ⟨i, hc, hl, _⟩ | ⟨e, hc⟩
    · have hc2 := cutAt_app 2048 m2 b 0 (by rw [hc]; simp)
      rw [hc] at hc2
      have ht : (b ++ m2).take i = b.take i := take_app (by omega)
      have hcb : cutAt 2048 0 (b.take 2048) = (some i, 0) := by rw [e2]; exact hc
      have hcm : cutAt 2048 0 ((b ++ more).take 2048) = (some i, 0) := by rw [e1]; exact hc2
      have hfl : firstL (b ++ more) = firstL b := by rw [firstL_hit hcb, firstL_hit hcm, e1, e2, ht]
      by_cases hs : st (tx ((b.take 2048).take i)) = 0
      · have hs2 : st (tx (((b ++ more).take 2048).take i)) = 0 := by rw [e1, ht]; rw [e2] at hs; exact hs
        rw [headL_hit hcb hs, e2, e3] at h ⊢
        rw [headL_hit hcm hs2, e1, drop_app hl, fldL_app _ _ _ _ (done_plusH h)]
        exact ⟨rfl, fun _ => hfl⟩
      · have hs2 : ¬ st (tx (((b ++ more).take 2048).take i)) = 0 := by rw [e1, ht]; rw [e2] at hs; exact hs
        rw [headL_bad hcb hs, headL_bad hcm hs2, e1, e2, ht]
        exact ⟨rfl, fun k => absurd rfl k⟩
    · have hcb : cutAt 2048 0 (b.take 2048) = (none, e) := by rw [e2]; exact hc
      rw [headL_miss hcb, e3] at h ⊢
      have h0 : ¬ e = 0 := by
        intro k
        subst k
        rcases h with k | k
        · exact absurd rfl k
        · exact absurd rfl k
      have hc2 := cutAt_app 2048 m2 b 0 (by rw [hc]; simpa using h0)
      rw [hc] at hc2
      have hcm : cutAt 2048 0 ((b ++ more).take 2048) = (none, e) := by rw [e1]; exact hc2
      rw [headL_miss hcm, hst_ne _ h0, hst_ne _ h0]
      exact ⟨rfl, fun k => absurd rfl k⟩
theorem headQ_app (b more : List UInt8) (h : ¬ (headQ b).n = 0 ∨ ¬ (headQ b).st = 0) : headQ (b ++ more) = headQ b := by
  have hd : DoneH (headL rqSt b) := by
    unfold headQ at h
    by_cases h0 : (headL rqSt b).2.1 = 0
    · rw [if_pos h0] at h
      rcases h with k | k
      · exact absurd rfl k
      · exact .inr k
    · exact .inl h0
  obtain ⟨e1, e2⟩ := headL_app rqSt b more hd
  unfold headQ
  rw [e1]
  by_cases h0 : (headL rqSt b).2.1 = 0
  · rw [if_pos h0, if_pos h0]
  · rw [if_neg h0, if_neg h0, e2 h0]
theorem bodyQ_app (b more : List UInt8) (n : Nat) (size : Int) (coded : Bool) (hn : n ≤ b.length) (h : ¬ (bodyQ b n size coded).2.1 = 0 ∨ ¬ (bodyQ b n size coded).2.2 = 0) (hs : 0 ≤ size) : bodyQ (b ++ more) n size coded = bodyQ b n size coded := by
  unfold bodyQ at *
  rw [drop_app hn]
  cases coded
  · simp only [Bool.false_eq_true, if_false] at h ⊢
    by_cases hl : ((b.length - n : Nat) : Int) < size
    · rw [if_pos hl] at h
      rcases h with k | k
      · exact absurd rfl k
      · exact absurd rfl k
    · rw [if_neg hl, if_neg (by rw [List.length_append]; omega), take_app (by rw [List.length_drop]; omega)]
  · simp only [if_true] at h ⊢
    have hd : Done (decR 4096 (b.drop n)) := by
      by_cases h0 : (decR 4096 (b.drop n)).2.1 = 0
      · rw [if_pos h0] at h
        rcases h with k | k
        · exact absurd rfl k
        · exact .inr k
      · exact .inl h0
    rw [decR_app _ _ _ hd]
theorem bodySt_zero {e : Int} (h : ¬ bodySt e = 0) : ¬ e = 0 := by
  intro k; subst k; exact h rfl
theorem reqQ_app (b more : List UInt8) (h : ¬ (reqQ b).n = 0 ∨ ¬ (reqQ b).st = 0) : reqQ (b ++ more) = reqQ b := by
  have ok := headQ_ok b
  unfold reqQ at h ⊢
  by_cases h0 : (headQ b).n = 0
  · rw [if_pos h0] at h ⊢
    have e := headQ_app b more (.inr (by rcases h with k | k; exact absurd rfl k; exact k))
    rw [e, if_pos h0]
  · rw [if_neg h0] at h ⊢
    have e := headQ_app b more (.inl h0)
    rw [e, if_neg h0]
    have hb : ¬ (bodyOf (headQ b) b).2.1 = 0 ∨ ¬ (bodyOf (headQ b) b).2.2 = 0 := by
      unfold rdOf at h
      by_cases h1 : (bodyOf (headQ b) b).2.1 = 0
      · rw [if_pos h1] at h
        rcases h with k | k
        · exact absurd rfl k
        · exact .inr (bodySt_zero k)
      · exact .inl h1
    have k : bodyOf (headQ b) (b ++ more) = bodyOf (headQ b) b := bodyQ_app b more _ _ _ ok.le.1 hb (told_nn _ _).1
    rw [k]
end Go.Proofs.YtemmmdhmkegaaaaGreatDoor

/- Heads, plain: a head's last four bytes; what Request tells of a head. -/
namespace Go.Proofs.YtemmmdhmkegaaaaGreatDoor
open Go.RowKit
set_option linter.unusedVariables false

end Go.Proofs.YtemmmdhmkegaaaaGreatDoor

/- Messages, plain: the three ways of a request. -/
namespace Go.Proofs.YtemmmdhmkegaaaaGreatDoor
open Go.RowKit
set_option linter.unusedVariables false

theorem bodyQ_le (b : List UInt8) (n : Nat) (size : Int) (coded : Bool) (hn : n ≤ b.length) (hs : 0 ≤ size) : (bodyQ b n size coded).2.1 ≤ b.length := by
  unfold bodyQ
  cases coded
  · simp only [Bool.false_eq_true, if_false]
    by_cases h : ((b.length - n : Nat) : Int) < size
    · rw [if_pos h]; exact Nat.zero_le _
    · rw [if_neg h]; simp only; omega
  · simp only [if_true]
    have k := decR_le 4096 (b.drop n)
    rw [List.length_drop] at k
    by_cases h : (decR 4096 (b.drop n)).2.1 = 0
    · rw [if_pos h]; exact Nat.zero_le _
    · rw [if_neg h]; simp only; omega
theorem reqQ_three (b : List UInt8) : reqQ b = rdNo 0 ∨ (∃ s, reqQ b = rdNo s ∧ ¬ s = 0) ∨ ∃ m t mi fs x n, reqQ b = ⟨m, t, mi, fs, x, n, 0⟩ ∧ ¬ n = 0 ∧ n ≤ b.length := by
  have ok := headQ_ok b
  unfold reqQ
  by_cases h0 : (headQ b).n = 0
  · rw [if_pos h0]
    by_cases hs : (headQ b).st = 0
    · rw [hs]; exact .inl rfl
    · exact .inr (.inl ⟨_, rfl, hs⟩)
  · rw [if_neg h0]
    have hle : (bodyOf (headQ b) b).2.1 ≤ b.length := bodyQ_le b _ _ _ ok.le.1 (told_nn _ _).1
    unfold rdOf
    by_cases h1 : (bodyOf (headQ b) b).2.1 = 0
    · rw [if_pos h1]
      by_cases hs : bodySt (bodyOf (headQ b) b).2.2 = 0
      · rw [hs]; exact .inl rfl
      · exact .inr (.inl ⟨_, rfl, hs⟩)
    · rw [if_neg h1]
      exact .inr (.inr ⟨_, _, _, _, _, _, rfl, h1, hle⟩)
end Go.Proofs.YtemmmdhmkegaaaaGreatDoor

/- Conn: Next. -/
namespace Go.Proofs.YtemmmdhmkegaaaaGreatDoor
open Go.RowKit
set_option linter.unusedVariables false

section
variable {F : Nat → Prop} {w0 w : World} {mb : Nat} {rs : List Nat} {Ls : List (List UInt8)} {m : Int} {b i : Nat} {s : Cs}
theorem hidC {p : Prop} (h : p) : Hid p := h
theorem Cn.aft {w1 : World} (h : Cn F w0 w mb rs Ls m b i s) (k : Below w.heap.size w w1) : Aft F (fun j => F j ∨ (w.heap.size ≤ j ∧ j < w1.heap.size)) w0 w w1 mb rs Ls m b i s := by
  have e : two Ls i s.li s.lo = Ls := two_self h.hi h.ho
  exact ⟨by rw [e]; exact h.belowN k, fun j hj _ => k.block j (h.flt j hj), k.size⟩
theorem Aft.five {F1 : Nat → Prop} {W : World} {s1 : Cs} {r : Nat} (h : Aft F F1 w0 w W mb rs Ls m b i s1) (hr : w.heap.size ≤ r) (h1 : F1 r) (hF : ∀ j, F j → F1 j) (hb : F b) (hlt : ∀ j, F j → j < w.heap.size) (v0 v1 v2 v3 v4 : Value) :
    Aft F F w0 w (five W r v0 v1 v2 v3 v4) mb rs Ls m b i s1 := by
  obtain ⟨k1, k2, k3⟩ := h
  have hbl := hlt b hb
  have hrb : r ≠ b := by omega
  have hl := k1.lo0
  have hK : Kp (fun k => k = r) W (Go.Proofs.YtemmmdhmkegaaaaGreatDoor.five W r v0 v1 v2 v3 v4) := by
    unfold Go.Proofs.YtemmmdhmkegaaaaGreatDoor.five
    exact ((((Kp.set (T := fun k => k = r) _ _ _ _ rfl).then (Kp.set _ _ _ _ rfl)).then (Kp.set _ _ _ _ rfl)).then (Kp.set _ _ _ _ rfl)).then (Kp.set _ _ _ _ rfl)
  exact ⟨k1.step hK (fun j hj => ⟨.inl ⟨hj ▸ h1, hj ▸ hrb⟩, by omega⟩) (fun j hj => .inl (hF j hj)) hb, fun k hk hne => (five_away (by have := hlt k hk; omega)).trans (k2 k hk hne), by rw [five_size]; exact k3⟩
def nextS (s : Cs) : Cs × Rd × Int :=
  if s.bz = true then (s, rdNo 0, -1)
  else if s.cl = true then (s, rdNo 0, -1)
  else if (reqQ s.li).st = 0 then (if (reqQ s.li).n = 0 then (s, rdNo 0, -1) else ({ s with li := s.li.drop (reqQ s.li).n, bz := true, wt := false }, reqQ s.li, 0))
  else (shutS s, rdNo 0, (reqQ s.li).st)
def nxV (r : Rd) (code : Int) (fa ba : Option Addr) (fc bc : Nat) : Value := .tuple #[.agg #[.string r.m, .string r.t, .int .i64 r.minor, .slice fa r.fs.length fc, .slice ba r.body.length bc], .int .i64 code]
end
end Go.Proofs.YtemmmdhmkegaaaaGreatDoor

/- Conn: Waits. -/
namespace Go.Proofs.YtemmmdhmkegaaaaGreatDoor
open Go.RowKit
set_option linter.unusedVariables false

section
variable {F : Nat → Prop} {w0 w : World} {mb : Nat} {rs : List Nat} {Ls : List (List UInt8)} {m : Int} {b i : Nat} {s : Cs}
def waitS (s : Cs) : Cs × Bool :=
  if s.bz = true then (s, false) else if s.wt = true then (s, false) else if s.cl = true then (s, false) else ({ s with wt := waitsQ s.li }, waitsQ s.li)
end
end Go.Proofs.YtemmmdhmkegaaaaGreatDoor

/- Conn's front: a beginning of which Request tells something tells the same of all. -/
namespace Go.Proofs.YtemmmdhmkegaaaaGreatDoor
open Go.RowKit
set_option linter.unusedVariables false

theorem waitsQ_told (l : List UInt8) (h : ¬ (reqQ l).n = 0 ∨ ¬ (reqQ l).st = 0) : waitsQ l = false := by
  unfold waitsQ
  split
  · rfl
  · split
    · rfl
    · split
      · rfl
      · rcases h with k | k
        · rw [decide_eq_false k]; rfl
        · rw [decide_eq_false k, Bool.and_false]
theorem front_told (li : List UInt8) (n : Nat) (h : ¬ (reqQ (li.take n)).n = 0 ∨ ¬ (reqQ (li.take n)).st = 0) : reqQ (li.take n) = reqQ li ∧ waitsQ (li.take n) = waitsQ li := by
  have e := reqQ_app (li.take n) (li.drop n) h
  rw [List.take_append_drop] at e
  exact ⟨e.symm, by rw [waitsQ_told _ h, waitsQ_told _ (by rw [e]; exact h)]⟩
end Go.Proofs.YtemmmdhmkegaaaaGreatDoor

/- Conn's front, however much has come. -/
namespace Go.Proofs.YtemmmdhmkegaaaaGreatDoor
open Go.RowKit
set_option linter.unusedVariables false

theorem hidZ' {p : Prop} (h : p) : Hid p := h
section
variable {F : Nat → Prop} {w0 w : World} {mb : Nat} {rs : List Nat} {Ls : List (List UInt8)} {m : Int} {b i : Nat} {s : Cs}
set_option maxRecDepth 100000 in
set_option maxHeartbeats 4000000 in
theorem cofront_all (h : Cn F w0 w mb rs Ls m b i s) (hM : MaxL w) (hl : s.li.length ≤ 1099511627776) :
    Calls Tryz.prog 49 #[.pointer (some ⟨b, 0, none⟩)] w fun e w' => ∃ g T, e = .returned (.slice (some ⟨g, 0, none⟩) T.length T.length) ∧ g < w'.heap.size ∧ Src w' g (.slice (some ⟨g, 0, none⟩) T.length T.length) T ∧ (reqQ T = reqQ s.li ∧ waitsQ T = waitsQ s.li) ∧ T.length ≤ s.li.length ∧ Below w.heap.size w w' := by
  obtain ⟨ri, ro, e1, e2, hb⟩ := h.blk
  have hbl : b < w.heap.size := h.lt
  have hc : w.cell? ⟨b, 0, none⟩ = some (.pointer (some ⟨ri, 0, none⟩)) := blkL_cell hb rfl
  obtain ⟨p, hm⟩ := h.many
  have H1 : Hid (∀ W, Below w.heap.size w W → Calls Tryz.prog 56 #[.pointer (some ⟨ri, 0, none⟩)] W fun e w' => e = .returned (.int .i64 s.li.length) ∧ w' = W) := fun W B => many_len i ri s.li (hm.below B) e1 h.hi
  have H2 : Hid (∀ W, Below w.heap.size w W → ∀ n : Nat, n ≤ s.li.length → Calls Tryz.prog 68 #[.pointer (some ⟨ri, 0, none⟩), .int .i64 n] W fun e w' => ∃ g, e = .returned (.slice (some ⟨g, 0, none⟩) n n) ∧ g < w'.heap.size ∧ Src w' g (.slice (some ⟨g, 0, none⟩) n n) (s.li.take n) ∧ Below W.heap.size W w') := fun W B n hn => by
    have k := many_peek i ri s.li n (hm.below B) e1 h.hi
    have hcp : clp (n : Int) s.li.length = n := by unfold clp; rw [if_neg (by omega), if_neg (by omega)]; omega
    rw [hcp] at k
    refine k.mono ?_
    rintro e w' ⟨g, rfl, q1, q2, q3, q4⟩
    have ht : (s.li.take n).length = n := by rw [List.length_take]; omega
    exact ⟨g, rfl, heap_lt q2, src_row q2 ht (by unfold maxLen; omega), q4⟩
  have H3 : Hid (∀ W, Below w.heap.size w W → ∀ (l : List UInt8) (g : Nat), Src W g (.slice (some ⟨g, 0, none⟩) l.length l.length) l → g < W.heap.size → l.length ≤ 1099511627776 → Calls Tryz.prog 39 #[.slice (some ⟨g, 0, none⟩) l.length l.length] W (ReqR W (reqQ l))) := fun W B l g hs hg hl => hreq_any l g l.length _ W hs (fun _ => hg) (hM.below B) hl
  have hcW : Hid (∀ W, Below w.heap.size w W → W.cell? ⟨b, 0, none⟩ = some (.pointer (some ⟨ri, 0, none⟩))) := fun W B => (B.cell hbl).trans hc
  have HF : Hid (∀ n, (¬ (reqQ (s.li.take n)).n = 0 ∨ ¬ (reqQ (s.li.take n)).st = 0) → reqQ (s.li.take n) = reqQ s.li ∧ waitsQ (s.li.take n) = waitsQ s.li) := fun n h => front_told s.li n h
  have HR : Hid (Below w.heap.size w w) := Below.refl _ _
  generalize hli : s.li = li at *
  obtain ⟨N, hN⟩ : ∃ N, N = li.length := ⟨_, rfl⟩
  have HN : Hid (N = li.length) := hN
  have HL : Hid (N ≤ 1099511627776) := by rw [hN]; exact hl
  rw [← hN] at H1 H2
  clear h hm hb hM hl hN hli e1 e2 hbl
  go_enter Tryz.func49, Tryz.ntmps49
  go_wp2_with fail
  go_loopw [3] (fun vi wr => ∃ n : Nat, vi = .int .i64 n ∧ 0 < n ∧ n ≤ 2199023255552 ∧ Hid (Below w.heap.size w wr)) (fun vi _ => 2199023255552 - (intOf vi).toNat)
  case atStart => exact ⟨6144, rfl, by decide, by decide, HR⟩
  case round =>
    obtain ⟨n, rfl, hn0, hn1, HB⟩ := hrel
    have hcr := hcW.out _ HB.out
    have H0 := H1.out _ HB.out
    by_cases hn : n < N
    · have hn' : (n : Int) < N := by omega
      go_wp2_with fail
      refine H0.mono ?_
      rintro e w' ⟨rfl, rfl⟩
      clear H0
      go_wp2_with fail
      refine (H2.out _ HB.out n (Nat.le_of_lt hn)).mono ?_
      rintro e w2 ⟨g, rfl, K1, K2, K3⟩
      have HB2 : Hid (Below w.heap.size w w2) := HB.out.trans (K3.mono HB.out.size)
      have ht : (li.take n).length = n := by rw [List.length_take, ← HN.out]; omega
      have K4 := H3.out w2 HB2.out (li.take n) g (by rw [ht]; exact K2) K1 (by rw [ht]; have := HL.out; omega)
      rw [ht] at K4
      have hF := HF.out n
      obtain ⟨qm, qt, qmi, qfs, qx, qn, st, hQ⟩ : ∃ qm qt qmi qfs qx qn st, reqQ (li.take n) = ⟨qm, qt, qmi, qfs, qx, qn, st⟩ := ⟨_, _, _, _, _, _, _, rfl⟩
      have HQ : Hid (reqQ (li.take n) = ⟨qm, qt, qmi, qfs, qx, qn, st⟩) := hQ
      rw [hQ] at K4 hF
      unfold ReqR rdV at K4
      simp only at K4 hF
      have HT : Hid (n = (li.take n).length) := ht.symm
      have HK : Hid (g < w2.heap.size ∧ Src w2 g (.slice (some ⟨g, 0, none⟩) n n) (li.take n)) := ⟨K1, K2⟩
      clear hQ ht K1 K2 K3 HB
      have end_ : ∀ w5, Below w2.heap.size w2 w5 → (¬ qn = 0 ∨ ¬ st = 0) → ∃ g' T, Ending.returned (.slice (some ⟨g, 0, none⟩) n n) = .returned (.slice (some ⟨g', 0, none⟩) T.length T.length) ∧ g' < w5.heap.size ∧ Src w5 g' (.slice (some ⟨g', 0, none⟩) T.length T.length) T ∧ (reqQ T = reqQ li ∧ waitsQ T = waitsQ li) ∧ T.length ≤ li.length ∧ Below w.heap.size w w5 := fun w5 B5 hq => by
        refine ⟨g, li.take n, by rw [← HT.out], Nat.lt_of_lt_of_le HK.out.1 B5.size, by rw [← HT.out]; exact HK.out.2.below HK.out.1 B5, ?_, by rw [← HT.out, ← HN.out]; omega, HB2.out.trans (B5.mono HB2.out.size)⟩
        have e := hF hq
        rw [HQ.out]
        exact e
      have HE := hidZ' end_
      clear end_ hF
      by_cases h1 : qn = 0
      · subst h1
        by_cases h2 : st = 0
        · subst h2
          go_wp2_with fail
          refine K4.mono ?_
          rintro e w3 ⟨fa, ba, fc, bc, rfl, -, -, B3⟩
          have HB3 : Hid (Below w.heap.size w (w3.alloc (.cells #[.string qm, .string qt, .int .i64 qmi, .slice fa qfs.length fc, .slice ba qx.length bc] 43))) := (HB2.out.trans (B3.mono HB2.out.size)).alloc (HB2.out.trans (B3.mono HB2.out.size)).size _
          go_wp2_with fail
          have hL := HL.out
          refine ⟨⟨n * 2, by rw [show ((n * 2 : Nat) : Int) = (n : Int) * 2 by omega], by omega, by omega, HB3⟩, ?_⟩
          show 2199023255552 - ((n : Int) * 2).toNat < 2199023255552 - ((n : Int)).toNat
          omega
        · have h2' : (st == 0) = false := by simpa using h2
          go_wp2_with fail
          refine K4.mono ?_
          rintro e w3 ⟨fa, ba, fc, bc, rfl, -, -, B3⟩
          go_wp2_with fail
          go_ret
          exact HE.out _ (B3.alloc B3.size _) (.inr h2)
      · have h1' : ((qn : Int) == 0) = false := by simpa using h1
        have h1i : ¬ (qn : Int) = 0 := by omega
        go_wp2_with fail
        refine K4.mono ?_
        rintro e w3 ⟨fa, ba, fc, bc, rfl, -, -, B3⟩
        go_wp2_with fail
        go_ret
        exact HE.out _ (B3.alloc B3.size _) (.inl h1)
    · have hn' : ¬ (n : Int) < N := by omega
      go_wp2_with fail
      refine H0.mono ?_
      rintro e w' ⟨rfl, rfl⟩
      clear H0
      have HD : Hid (∀ k, Below w.heap.size w (w'.drewN k)) := fun k => HB.out.trans (((But.drewN w'.heap.size k w').below (Nat.le_refl _)).mono HB.out.size)
      have HZ : Hid (li.take N = li) := List.take_of_length_le (by rw [HN.out]; exact Nat.le_refl _)
      go_wp2_with fail
      go_region_with (first | (go_at_call 56; refine (H1.out _ (HD.out _)).mono ?_; rintro e w' ⟨rfl, rfl⟩) | (go_at_call 68; refine (H2.out _ (HD.out _) N (Nat.le_refl _)).mono ?_; rintro e w' ⟨g, rfl, K1, K2, K3⟩))
      all_goals
        clear H1 H2
        try go_wp2
        go_ret
        have hz := HZ.out
        rw [hz] at K2
        have hNl := HN.out
        subst hNl
        exact ⟨g, li, rfl, K1, K2, ⟨rfl, rfl⟩, Nat.le_refl _, (HD.out _).trans (K3.mono (HD.out _).size)⟩
end
end Go.Proofs.YtemmmdhmkegaaaaGreatDoor

/- Conn: Next and Waits, however much has come. -/
namespace Go.Proofs.YtemmmdhmkegaaaaGreatDoor
open Go.RowKit
set_option linter.unusedVariables false

section
variable {F : Nat → Prop} {w0 w : World} {mb : Nat} {rs : List Nat} {Ls : List (List UInt8)} {m : Int} {b i : Nat} {s : Cs}
set_option maxRecDepth 100000 in
set_option maxHeartbeats 4000000 in
theorem conext_all (h : Cn F w0 w mb rs Ls m b i s) (hl : s.li.length ≤ 1099511627776) (hM : MaxL w) :
    Calls Tryz.prog 16 #[.pointer (some ⟨b, 0, none⟩)] w fun e w' => ∃ fa ba fc bc, e = .returned (nxV (nextS s).2.1 (nextS s).2.2 fa ba fc bc) ∧
      OwnF w.heap.size w' (.slice fa (nextS s).2.1.fs.length fc) (nextS s).2.1.fs ∧ Own w.heap.size w' (.slice ba (nextS s).2.1.body.length bc) (nextS s).2.1.body ∧ Aft F F w0 w w' mb rs Ls m b i (nextS s).1 := by
  have B0 : Below w.heap.size w (w.alloc (.cells #[.string ⟨#[]⟩, .string ⟨#[]⟩, .int .i64 0, .slice none 0 0, .slice none 0 0] 43)) := (Below.refl _ _).alloc (Nat.le_refl _) _
  have hg0 := tblk_new w (.cells #[.string ⟨#[]⟩, .string ⟨#[]⟩, .int .i64 0, .slice none 0 0, .slice none 0 0] 43)
  have hs0 : (w.alloc (.cells #[.string ⟨#[]⟩, .string ⟨#[]⟩, .int .i64 0, .slice none 0 0, .slice none 0 0] 43)).heap.size = w.heap.size + 1 := by simp
  have hflt := h.flt
  have hF1 : ∀ (W : World) (j : Nat), F j → (F j ∨ (w.heap.size ≤ j ∧ j < W.heap.size)) := fun W j hj => .inl hj
  have A0 := h.aft B0
  have HZ := A0.five (Nat.le_refl _) (.inr ⟨Nat.le_refl _, by rw [hs0]; omega⟩) (hF1 _) h.own hflt (.string ⟨#[]⟩) (.string ⟨#[]⟩) (.int .i64 0) (.slice none 0 0) (.slice none 0 0)
  have HY := h.same.below B0 hflt
  have h0 : Cn (fun j => F j ∨ (w.heap.size ≤ j ∧ j < (w.alloc (.cells #[.string ⟨#[]⟩, .string ⟨#[]⟩, .int .i64 0, .slice none 0 0, .slice none 0 0] 43)).heap.size)) w0 (w.alloc (.cells #[.string ⟨#[]⟩, .string ⟨#[]⟩, .int .i64 0, .slice none 0 0, .slice none 0 0] 43)) mb rs Ls m b i s := h.belowN B0
  obtain ⟨ri, ro, e1, e2, hb⟩ := h0.blk
  have hc3 : (w.alloc (.cells #[.string ⟨#[]⟩, .string ⟨#[]⟩, .int .i64 0, .slice none 0 0, .slice none 0 0] 43)).cell? ⟨b, 3, none⟩ = some (.bool s.bz) := blkL_cell hb rfl
  have HCL := coclosing_any h0
  have HFR := cofront_all h0 (hM.below B0) hl
  have HRQ : Hid (∀ (W : World) (g : Nat) (T : List UInt8), Below w.heap.size w W → g < W.heap.size → reqQ T = reqQ s.li → T.length ≤ s.li.length → Src W g (.slice (some ⟨g, 0, none⟩) T.length T.length) T → Calls Tryz.prog 39 #[.slice (some ⟨g, 0, none⟩) T.length T.length] W (ReqR W (reqQ s.li))) := fun W g T B hg eq hT S => by rw [← eq]; exact hreq_any T g _ _ W S (fun _ => hg) (hM.below B) (by omega)
  have HH : Hid (Cn F w0 w mb rs Ls m b i s) := h
  have HB0 : Hid (Below w.heap.size w (w.alloc (.cells #[.string ⟨#[]⟩, .string ⟨#[]⟩, .int .i64 0, .slice none 0 0, .slice none 0 0] 43))) := B0
  have H3 := reqQ_three s.li
  clear h h0 hM A0 hF1 hb B0
  rcases Bool.eq_false_or_eq_true s.bz with hbz | hbz
  · rw [hbz] at hc3
    have HE : Hid (nextS s = (s, rdNo 0, -1)) := by unfold nextS Hid; rw [if_pos hbz]
    have HA : Hid _ := HY
    clear HCL HFR HRQ H3 hflt HY HZ hg0
    go_enter Tryz.func16, Tryz.ntmps16
    go_wp2_with fail
    go_wp2
    refine bodyPost_ret (v := .tuple #[.agg #[.string ⟨#[]⟩, .string ⟨#[]⟩, .int .i64 0, .slice none 0 0, .slice none 0 0], .int .i64 (-1)]) (by simp [results, Tryz.results16, go_sem]) rfl ?_
    rw [HE.out]
    exact ⟨none, none, 0, 0, rfl, OwnF.nil _ _, Own.nil _ _, HA.out⟩
  · rw [hbz] at hc3
    rcases Bool.eq_false_or_eq_true s.cl with hcl | hcl
    · rw [hcl] at HCL
      have HE : Hid (nextS s = (s, rdNo 0, -1)) := by unfold nextS Hid; rw [if_neg (by rw [hbz]; decide), if_pos hcl]
      have HA : Hid _ := HY
      clear HFR HRQ H3 hflt HY HZ hg0
      go_enter Tryz.func16, Tryz.ntmps16
      go_wp2_with fail
      refine HCL.mono ?_
      rintro e w1 ⟨rfl, rfl⟩
      clear HCL
      go_wp2_with fail
      go_wp2
      refine bodyPost_ret (v := .tuple #[.agg #[.string ⟨#[]⟩, .string ⟨#[]⟩, .int .i64 0, .slice none 0 0, .slice none 0 0], .int .i64 (-1)]) (by simp [results, Tryz.results16, go_sem]) rfl ?_
      rw [HE.out]
      exact ⟨none, none, 0, 0, rfl, OwnF.nil _ _, Own.nil _ _, HA.out⟩
    · rw [hcl] at HCL
      clear HZ HY
      go_enter Tryz.func16, Tryz.ntmps16
      go_wp2_with fail
      refine HCL.mono ?_
      rintro e w1 ⟨rfl, rfl⟩
      clear HCL
      go_wp2_with fail
      refine HFR.mono ?_
      rintro e w1 ⟨g, T, rfl, hg, S1, TQ, TL, B1⟩
      have D1 : Below w.heap.size w w1 := HB0.out.trans (B1.mono HB0.out.size)
      have hg1 := tblk_below hg0 B1
      clear HFR hg0 hc3
      have HQ := HRQ.out w1 g T D1 hg TQ.1 TL S1
      clear HRQ S1 hg TQ TL
      generalize T.length = tl at HQ ⊢
      clear T
      have hflt2 := hidC hflt
      rcases H3 with H3 | ⟨st, H3, hst⟩ | ⟨qm, qt, qmi, qfs, qx, qn, H3, hqn, hqle⟩
      · have HE : Hid (nextS s = (s, rdNo 0, -1)) := by unfold nextS Hid; rw [if_neg (by rw [hbz]; decide), if_neg (by rw [hcl]; decide), H3]; rfl
        rw [H3] at HQ
        unfold ReqR rdV rdNo at HQ
        simp only [List.length_nil] at HQ
        clear H3 hflt
        go_wp2_with fail
        refine HQ.mono ?_
        rintro e w2 ⟨fa, ba, fc, bc, rfl, OF, OB, B2⟩
        have D2 : Below w.heap.size w w2 := D1.trans (B2.mono D1.size)
        have hg2 := tblk_below hg1 B2
        have D3 := D2.alloc D2.size (.cells #[.string ⟨#[]⟩, .string ⟨#[]⟩, .int .i64 0, .slice fa 0 fc, .slice ba 0 bc] 43)
        have hg3 := tblk_below hg2 ((Below.refl _ _).alloc (Nat.le_refl _) (.cells #[.string ⟨#[]⟩, .string ⟨#[]⟩, .int .i64 0, .slice fa 0 fc, .slice ba 0 bc] 43))
        have HA : Hid _ := (HH.out.aft D3).five (Nat.le_refl _) (.inr ⟨Nat.le_refl _, heap_lt hg3⟩) (fun j hj => .inl hj) HH.out.own hflt2.out (.string ⟨#[]⟩) (.string ⟨#[]⟩) (.int .i64 0) (.slice none 0 0) (.slice none 0 0)
        unfold five at HA
        have HW := five_cells hg3 (.string ⟨#[]⟩) (.string ⟨#[]⟩) (.int .i64 0) (.slice none 0 0) (.slice none 0 0)
        have a0 := tblk_cell (i := 0) hg3 rfl
        have z0 := lblk_z (i := 0) hg3
        have a1 := tblk_cell (i := 1) hg3 rfl
        have z1 := lblk_z (i := 1) hg3
        have a2 := tblk_cell (i := 2) hg3 rfl
        have z2 := lblk_z (i := 2) hg3
        have a3 := tblk_cell (i := 3) hg3 rfl
        have z3 := lblk_z (i := 3) hg3
        have a4 := tblk_cell (i := 4) hg3 rfl
        have z4 := lblk_z (i := 4) hg3
        have r0 := tblk_cell (i := 0) HW rfl
        have r1 := tblk_cell (i := 1) HW rfl
        have r2 := tblk_cell (i := 2) HW rfl
        have r3 := tblk_cell (i := 3) HW rfl
        have r4 := tblk_cell (i := 4) HW rfl
        unfold five at r0 r1 r2 r3 r4
        clear HW hg2 hg3 HQ OF OB B2 D2 D3 hg1 D1
        go_wp2
        refine bodyPost_ret (v := .tuple #[.agg #[.string ⟨#[]⟩, .string ⟨#[]⟩, .int .i64 0, .slice none 0 0, .slice none 0 0], .int .i64 (-1)]) (by simp [results, Tryz.results16, go_sem, r0, r1, r2, r3, r4]) rfl ?_
        rw [HE.out]
        exact ⟨none, none, 0, 0, rfl, OwnF.nil _ _, Own.nil _ _, HA.out⟩
      · have HE : Hid (nextS s = (shutS s, rdNo 0, st)) := by unfold nextS Hid; rw [if_neg (by rw [hbz]; decide), if_neg (by rw [hcl]; decide), H3]; exact if_neg hst
        rw [H3] at HQ
        unfold ReqR rdV rdNo at HQ
        simp only [List.length_nil] at HQ
        clear H3 hflt
        have hst' : (st == 0) = false := by simpa using hst
        have hst2 : (st != 0) = true := by simpa using hst
        go_wp2_with fail
        refine HQ.mono ?_
        rintro e w2 ⟨fa, ba, fc, bc, rfl, OF, OB, B2⟩
        have D2 : Below w.heap.size w w2 := D1.trans (B2.mono D1.size)
        have hg2 := tblk_below hg1 B2
        have D3 := D2.alloc D2.size (.cells #[.string ⟨#[]⟩, .string ⟨#[]⟩, .int .i64 0, .slice fa 0 fc, .slice ba 0 bc] 43)
        have hg3 := tblk_below hg2 ((Below.refl _ _).alloc (Nat.le_refl _) (.cells #[.string ⟨#[]⟩, .string ⟨#[]⟩, .int .i64 0, .slice fa 0 fc, .slice ba 0 bc] 43))
        clear hg2 HQ OF OB B2 D2 hg1 D1
        go_wp2_with fail
        generalize w2.alloc (.cells #[.string ⟨#[]⟩, .string ⟨#[]⟩, .int .i64 0, .slice fa 0 fc, .slice ba 0 bc] 43) = w3 at *
        have A3 := HH.out.aft D3
        have hgl := heap_lt hg3
        refine (coclose_any A3.1).mono ?_
        rintro e w4 ⟨rfl, A4⟩
        have A5 := A3.then A4 (fun j hj => .inl hj)
        have hg4 : w4.heap[w.heap.size]? = some (.cells #[.string ⟨#[]⟩, .string ⟨#[]⟩, .int .i64 0, .slice none 0 0, .slice none 0 0] 43) :=
          (A4.2.1 _ (.inr ⟨Nat.le_refl _, hgl⟩) (by have := hflt2.out _ HH.out.own; omega)).trans hg3
        have HA : Hid _ := A5.five (Nat.le_refl _) (.inr ⟨Nat.le_refl _, hgl⟩) (fun j hj => .inl hj) HH.out.own hflt2.out (.string ⟨#[]⟩) (.string ⟨#[]⟩) (.int .i64 0) (.slice none 0 0) (.slice none 0 0)
        unfold five at HA
        have HW := five_cells hg4 (.string ⟨#[]⟩) (.string ⟨#[]⟩) (.int .i64 0) (.slice none 0 0) (.slice none 0 0)
        have a0 := tblk_cell (i := 0) hg4 rfl
        have z0 := lblk_z (i := 0) hg4
        have a1 := tblk_cell (i := 1) hg4 rfl
        have z1 := lblk_z (i := 1) hg4
        have a2 := tblk_cell (i := 2) hg4 rfl
        have z2 := lblk_z (i := 2) hg4
        have a3 := tblk_cell (i := 3) hg4 rfl
        have z3 := lblk_z (i := 3) hg4
        have a4 := tblk_cell (i := 4) hg4 rfl
        have z4 := lblk_z (i := 4) hg4
        have r0 := tblk_cell (i := 0) HW rfl
        have r1 := tblk_cell (i := 1) HW rfl
        have r2 := tblk_cell (i := 2) HW rfl
        have r3 := tblk_cell (i := 3) HW rfl
        have r4 := tblk_cell (i := 4) HW rfl
        unfold five at r0 r1 r2 r3 r4
        clear HW hg3 hg4 A3 A4 A5 D3 hgl
        go_wp2
        refine bodyPost_ret (v := .tuple #[.agg #[.string ⟨#[]⟩, .string ⟨#[]⟩, .int .i64 0, .slice none 0 0, .slice none 0 0], .int .i64 st]) (by simp [results, Tryz.results16, go_sem, r0, r1, r2, r3, r4]) rfl ?_
        rw [HE.out]
        exact ⟨none, none, 0, 0, rfl, OwnF.nil _ _, Own.nil _ _, HA.out⟩
      · have HE : Hid (nextS s = ({ s with li := s.li.drop qn, bz := true, wt := false }, ⟨qm, qt, qmi, qfs, qx, qn, 0⟩, 0)) := by
          unfold nextS Hid; rw [if_neg (by rw [hbz]; decide), if_neg (by rw [hcl]; decide), H3]; exact (if_pos rfl).trans (if_neg hqn)
        rw [H3] at HQ
        unfold ReqR rdV at HQ
        simp only at HQ
        clear H3 hflt
        have hqn' : ((qn : Int) == 0) = false := by simpa using hqn
        have hqn2 : ¬ (qn : Int) = 0 := by omega
        go_wp2_with fail
        refine HQ.mono ?_
        rintro e w2 ⟨fa, ba, fc, bc, rfl, OF, OB, B2⟩
        have D2 : Below w.heap.size w w2 := D1.trans (B2.mono D1.size)
        have hg2 := tblk_below hg1 B2
        have D3 := D2.alloc D2.size (.cells #[.string qm, .string qt, .int .i64 qmi, .slice fa qfs.length fc, .slice ba qx.length bc] 43)
        have U3 : Below w2.heap.size w2 (w2.alloc (.cells #[.string qm, .string qt, .int .i64 qmi, .slice fa qfs.length fc, .slice ba qx.length bc] 43)) := (Below.refl _ _).alloc (Nat.le_refl _) _
        have hg3 := tblk_below hg2 U3
        have hr3 := tblk_new w2 (.cells #[.string qm, .string qt, .int .i64 qmi, .slice fa qfs.length fc, .slice ba qx.length bc] 43)
        have O3 := OF.keep U3
        have P3 := OB.keep U3
        have hsz1 : w.heap.size < w1.heap.size := heap_lt hg1
        have hsz2 : w1.heap.size ≤ w2.heap.size := B2.size
        have A3 := HH.out.aft D3
        obtain ⟨ri, ro, f1, f2, f3⟩ := A3.1.blk
        have hc0 := blkL_cell (i := 0) f3 rfl
        clear hg2 HQ OF OB B2 D2 hg1 D1 U3 f3
        go_wp2_with fail
        generalize w2.alloc (.cells #[.string qm, .string qt, .int .i64 qmi, .slice fa qfs.length fc, .slice ba qx.length bc] 43) = w3 at *
        have hgl := heap_lt hg3
        have hrl := heap_lt hr3
        have hbl := hflt2.out _ HH.out.own
        obtain ⟨p, hm⟩ := A3.1.many
        have hcp : clp (qn : Int) s.li.length = qn := by unfold clp; rw [if_neg (by omega), if_neg (by omega)]; omega
        have H2 := many_take i ri s.li qn hm f1 A3.1.hi
        rw [hcp] at H2
        refine H2.mono ?_
        rintro e w4 ⟨g2, rfl, hg2, hrow, M4, K4, S4⟩
        have A4 := A3.1.ring (F' := fun k => (F k ∨ (w.heap.size ≤ k ∧ k < w3.heap.size)) ∨ k = g2) _ { s with li := s.li.drop qn } rfl rfl rfl rfl (by
          have e := two_l (i := i) (a := s.li.drop qn) A3.1.ho
          show Many _ w0 w4 mb rs (two (two Ls i s.li s.lo) i (s.li.drop qn) s.lo) m _
          rw [e]; exact M4) (.inl A3.1.own) K4 S4
        obtain ⟨ri4, ro4, q1, q2, hb4⟩ := A4.1.blk
        have k5 := A4.1.store 3 (.bool true) { s with li := s.li.drop qn, bz := true } rfl rfl (fun _ _ => rfl) A4.1.win
        have k6 := k5.store 4 (.bool false) { s with li := s.li.drop qn, bz := true, wt := false } rfl rfl (fun _ _ => rfl) A4.1.win
        have hk6 : ∀ k, k ≠ b → ((w4.setCell ⟨b, 3, none⟩ (.bool true)).setCell ⟨b, 4, none⟩ (.bool false)).heap[k]? = w4.heap[k]? := fun k hk => (blkL_other hk _).trans (blkL_other hk _)
        have hs6 : ((w4.setCell ⟨b, 3, none⟩ (.bool true)).setCell ⟨b, 4, none⟩ (.bool false)).heap.size = w4.heap.size := by simp [World.setCell]
        have A6 : Aft (fun j => F j ∨ (w.heap.size ≤ j ∧ j < w3.heap.size)) (fun k => (F k ∨ (w.heap.size ≤ k ∧ k < w3.heap.size)) ∨ k = g2) w0 w3 ((w4.setCell ⟨b, 3, none⟩ (.bool true)).setCell ⟨b, 4, none⟩ (.bool false)) mb rs (two Ls i s.li s.lo) m b i { s with li := s.li.drop qn, bz := true, wt := false } :=
          ⟨k6, fun k hk hne => (hk6 k hne).trans (K4 k hk), by rw [hs6]; exact S4⟩
        have A7 := A3.then A6 (fun j hj => .inl hj)
        have hK : ∀ k, w.heap.size ≤ k → k < w3.heap.size → ((w4.setCell ⟨b, 3, none⟩ (.bool true)).setCell ⟨b, 4, none⟩ (.bool false)).heap[k]? = w3.heap[k]? := fun k h1 h2 => A6.2.1 k (.inr ⟨h1, h2⟩) (by omega)
        have hg6 := (hK _ (Nat.le_refl _) hgl).trans hg3
        have hr6 := (hK _ (by omega) hrl).trans hr3
        have HA : Hid _ := A7.five (Nat.le_refl _) (.inl (.inr ⟨Nat.le_refl _, hgl⟩)) (fun j hj => .inl (.inl hj)) HH.out.own hflt2.out (.string qm) (.string qt) (.int .i64 qmi) (.slice fa qfs.length fc) (.slice ba qx.length bc)
        have HO : Hid (OwnF w.heap.size (five ((w4.setCell ⟨b, 3, none⟩ (.bool true)).setCell ⟨b, 4, none⟩ (.bool false)) w.heap.size (.string qm) (.string qt) (.int .i64 qmi) (.slice fa qfs.length fc) (.slice ba qx.length bc)) (.slice fa qfs.length fc) qfs) := (O3.kept (fun k h1 h2 => (five_away (by omega)).trans (hK k (by omega) h2))).mono (by omega)
        have HP : Hid (Own w.heap.size (five ((w4.setCell ⟨b, 3, none⟩ (.bool true)).setCell ⟨b, 4, none⟩ (.bool false)) w.heap.size (.string qm) (.string qt) (.int .i64 qmi) (.slice fa qfs.length fc) (.slice ba qx.length bc)) (.slice ba qx.length bc) qx) := (P3.kept (fun k h1 h2 => (five_away (by omega)).trans (hK k (by omega) h2))).mono (by omega)
        unfold five at HA HO HP
        have c3 := blkL_cell (i := 3) hb4 rfl
        have x3 := blkL_z hb4 3
        have hb5 := blkL_set (i := 3) hb4 (.bool true)
        have c4 := blkL_cell (i := 4) hb5 rfl
        have x4 := blkL_z hb5 4
        have HW := five_cells hg6 (.string qm) (.string qt) (.int .i64 qmi) (.slice fa qfs.length fc) (.slice ba qx.length bc)
        have a0 := tblk_cell (i := 0) hg6 rfl
        have z0 := lblk_z (i := 0) hg6
        have a1 := tblk_cell (i := 1) hg6 rfl
        have z1 := lblk_z (i := 1) hg6
        have a2 := tblk_cell (i := 2) hg6 rfl
        have z2 := lblk_z (i := 2) hg6
        have a3 := tblk_cell (i := 3) hg6 rfl
        have z3 := lblk_z (i := 3) hg6
        have a4 := tblk_cell (i := 4) hg6 rfl
        have z4 := lblk_z (i := 4) hg6
        have y0 := tblk_cell (i := 0) hr6 rfl
        have y1 := tblk_cell (i := 1) hr6 rfl
        have y2 := tblk_cell (i := 2) hr6 rfl
        have y3 := tblk_cell (i := 3) hr6 rfl
        have y4 := tblk_cell (i := 4) hr6 rfl
        have r0 := tblk_cell (i := 0) HW rfl
        have r1 := tblk_cell (i := 1) HW rfl
        have r2 := tblk_cell (i := 2) HW rfl
        have r3 := tblk_cell (i := 3) HW rfl
        have r4 := tblk_cell (i := 4) HW rfl
        unfold five at r0 r1 r2 r3 r4
        clear HW hg6 hr6 hK A7 A6 k6 k5 A4 M4 K4 H2 hm A3 O3 P3 D3 hg3 hr3 hk6 hb4 hb5
        generalize hql : qfs.length = ql at *
        have HQL := hidC hql
        generalize hxl : qx.length = xl at *
        have HXL := hidC hxl
        clear hql hxl
        go_wp2
        refine bodyPost_ret (v := .tuple #[.agg #[.string qm, .string qt, .int .i64 qmi, .slice fa ql fc, .slice ba xl bc], .int .i64 0]) (by simp [results, Tryz.results16, go_sem, r0, r1, r2, r3, r4]) rfl ?_
        rw [HE.out]
        obtain rfl := HQL.out
        obtain rfl := HXL.out
        exact ⟨fa, ba, fc, bc, rfl, HO.out, HP.out, HA.out⟩
set_option maxRecDepth 100000 in
set_option maxHeartbeats 4000000 in
theorem cowaits_all (h : Cn F w0 w mb rs Ls m b i s) (hl : s.li.length ≤ 1099511627776) (hM : MaxL w) :
    Calls Tryz.prog 19 #[.pointer (some ⟨b, 0, none⟩)] w fun e w' => e = .returned (.bool (waitS s).2) ∧ Aft F F w0 w w' mb rs Ls m b i (waitS s).1 := by
  obtain ⟨ri, ro, e1, e2, hb⟩ := h.blk
  have hc3 : w.cell? ⟨b, 3, none⟩ = some (.bool s.bz) := blkL_cell hb rfl
  have hc4 : w.cell? ⟨b, 4, none⟩ = some (.bool s.wt) := blkL_cell hb rfl
  have HCL := coclosing_any h
  have HFR := cofront_all h hM hl
  have HW : Hid (∀ (W : World) (g : Nat) (T : List UInt8), Below w.heap.size w W → g < W.heap.size → waitsQ T = waitsQ s.li → T.length ≤ s.li.length → Src W g (.slice (some ⟨g, 0, none⟩) T.length T.length) T → Calls Tryz.prog 54 #[.slice (some ⟨g, 0, none⟩) T.length T.length] W fun e w' => e = .returned (.bool (waitsQ s.li)) ∧ Below W.heap.size W w') := fun W g T B hg eq hT S => by rw [← eq]; exact waits_any T g _ _ W S (fun _ => hg) (hM.below B) (by omega)
  have HH : Hid (Cn F w0 w mb rs Ls m b i s) := h
  have HS : Hid (Aft F F w0 w w mb rs Ls m b i s) := h.same
  clear h hM hb
  rcases Bool.eq_false_or_eq_true s.bz with hbz | hbz
  · rw [hbz] at hc3
    have HE : Hid (waitS s = (s, false)) := by unfold waitS Hid; rw [if_pos hbz]
    clear HCL HFR HW
    go_enter Tryz.func19, Tryz.ntmps19
    go_wp2
    go_ret
    rw [HE.out]
    exact ⟨rfl, HS.out⟩
  · rw [hbz] at hc3
    rcases Bool.eq_false_or_eq_true s.wt with hwt | hwt
    · rw [hwt] at hc4
      have HE : Hid (waitS s = (s, false)) := by unfold waitS Hid; rw [if_neg (by rw [hbz]; decide), if_pos hwt]
      clear HCL HFR HW
      go_enter Tryz.func19, Tryz.ntmps19
      go_wp2
      go_ret
      rw [HE.out]
      exact ⟨rfl, HS.out⟩
    · rw [hwt] at hc4
      rcases Bool.eq_false_or_eq_true s.cl with hcl | hcl
      · rw [hcl] at HCL
        have HE : Hid (waitS s = (s, false)) := by unfold waitS Hid; rw [if_neg (by rw [hbz]; decide), if_neg (by rw [hwt]; decide), if_pos hcl]
        clear HFR HW
        go_enter Tryz.func19, Tryz.ntmps19
        go_wp2_with fail
        refine HCL.mono ?_
        rintro e w1 ⟨rfl, rfl⟩
        clear HCL
        go_wp2
        go_ret
        rw [HE.out]
        exact ⟨rfl, HS.out⟩
      · rw [hcl] at HCL
        have HE : Hid (waitS s = ({ s with wt := waitsQ s.li }, waitsQ s.li)) := by unfold waitS Hid; rw [if_neg (by rw [hbz]; decide), if_neg (by rw [hwt]; decide), if_neg (by rw [hcl]; decide)]
        clear HS
        go_enter Tryz.func19, Tryz.ntmps19
        go_wp2_with fail
        refine HCL.mono ?_
        rintro e w' ⟨rfl, hw⟩
        rw [hw]
        clear hw HCL
        go_wp2_with fail
        refine HFR.mono ?_
        rintro e w1 ⟨g, T, rfl, hg, S1, TQ, TL, B1⟩
        clear HFR
        have HQ := HW.out w1 g T B1 hg TQ.2 TL S1
        clear HW S1 hg TQ TL
        generalize T.length = tl at HQ ⊢
        clear T
        go_wp2_with fail
        refine HQ.mono ?_
        rintro e w2 ⟨rfl, B2⟩
        have D2 := B1.trans (B2.mono B1.size)
        clear HQ B2 B1 hc3 hc4
        have h2 := HH.out.below D2
        obtain ⟨ri2, ro2, q1, q2, hb2⟩ := h2.blk
        have x4 := blkL_z hb2 4
        have c4 := blkL_cell (i := 4) hb2 rfl
        have k := h2.store 4 (.bool (waitsQ s.li)) { s with wt := waitsQ s.li } rfl rfl (fun _ _ => rfl) h2.win
        have HA : Hid (Aft F F w0 w (w2.setCell ⟨b, 4, none⟩ (.bool (waitsQ s.li))) mb rs Ls m b i { s with wt := waitsQ s.li }) := by
          have e : two Ls i s.li s.lo = Ls := two_self HH.out.hi HH.out.ho
          obtain ⟨p1, p2⟩ := set_keeps (q := 4) (v := .bool (waitsQ s.li)) F w2 b
          exact ⟨by rw [e]; exact k, fun j hj hne => (p1 j hj hne).trans (D2.block j (HH.out.flt j hj)), Nat.le_trans D2.size p2⟩
        clear h2 k hb2 D2
        generalize waitsQ s.li = q at *
        go_wp2
        go_ret
        rw [HE.out]
        exact ⟨rfl, HA.out⟩
end
end Go.Proofs.YtemmmdhmkegaaaaGreatDoor

/- Conn: the document's example. -/
namespace Go.Proofs.YtemmmdhmkegaaaaGreatDoor
open Go.RowKit
set_option linter.unusedVariables false

section
variable {F : Nat → Prop} {w0 w : World} {mb : Nat} {rs : List Nat} {Ls : List (List UInt8)} {m : Int} {b i : Nat} {s : Cs}
theorem Aft.back {F1 : Nat → Prop} {w1 w2 : World} {s1 : Cs} (h : Cn F w0 w mb rs Ls m b i s) (B : Below w.heap.size w w1) (A : Aft (fun j => F j ∨ (w.heap.size ≤ j ∧ j < w1.heap.size)) F1 w0 w1 w2 mb rs Ls m b i s1) (hF : ∀ j, F j → F1 j) : Aft F F w0 w w2 mb rs Ls m b i s1 :=
  ⟨A.1.weak hF h.own, fun k hk hne => (A.2.1 k (.inl hk) hne).trans (B.block k (h.flt k hk)), Nat.le_trans B.size A.2.2⟩
theorem cofeed_new {w1 : World} (h : Cn F w0 w mb rs Ls m b i s) (B : Below w.heap.size w w1) (k : Nat) (x : List UInt8) (v : Value) (hv : Src w1 k v x) (hk : F k ∨ (w.heap.size ≤ k ∧ k < w1.heap.size)) :
    Calls Tryz.prog 14 #[.pointer (some ⟨b, 0, none⟩), v] w1 fun e w' => e = .returned (.bool (feedS s (tot Ls) m x).2) ∧ Aft F F w0 w w' mb rs Ls m b i (feedS s (tot Ls) m x).1 :=
  (cofeed_any (h.belowN B) k x v hv hk).mono fun e w' ⟨q1, q2⟩ => ⟨q1, Aft.back h B q2 (fun _ c => .inl c)⟩
theorem cosay_new {w1 : World} (h : Cn F w0 w mb rs Ls m b i s) (B : Below w.heap.size w w1) (k : Nat) (x : List UInt8) (v : Value) (last : Bool) (hv : Src w1 k v x) (hk : F k ∨ (w.heap.size ≤ k ∧ k < w1.heap.size)) (hkb : k ≠ b) :
    Calls Tryz.prog 21 #[.pointer (some ⟨b, 0, none⟩), v, .bool last] w1 fun e w' => e = .returned (.bool (sayS s (tot Ls) m x last).2) ∧ Aft F F w0 w w' mb rs Ls m b i (sayS s (tot Ls) m x last).1 :=
  (cosay_any (h.belowN B) k x v last hv hk hkb).mono fun e w' ⟨q1, q2⟩ => ⟨q1, Aft.back h B q2 (fun _ c => .inl c)⟩
theorem conext_new {w1 : World} (h : Cn F w0 w mb rs Ls m b i s) (B : Below w.heap.size w w1) (hl : s.li.length ≤ 1099511627776) (hM : MaxL w1) :
    Calls Tryz.prog 16 #[.pointer (some ⟨b, 0, none⟩)] w1 fun e w' => ∃ fa ba fc bc, e = .returned (nxV (nextS s).2.1 (nextS s).2.2 fa ba fc bc) ∧
      OwnF w1.heap.size w' (.slice fa (nextS s).2.1.fs.length fc) (nextS s).2.1.fs ∧ Own w1.heap.size w' (.slice ba (nextS s).2.1.body.length bc) (nextS s).2.1.body ∧ Aft F F w0 w w' mb rs Ls m b i (nextS s).1 ∧ (∀ k, w.heap.size ≤ k → k < w1.heap.size → w'.heap[k]? = w1.heap[k]?) :=
  (conext_all (h.belowN B) hl hM).mono fun e w' ⟨fa, ba, fc, bc, q1, q2, q3, q4⟩ => ⟨fa, ba, fc, bc, q1, q2, q3, Aft.back h B q4 (fun _ c => .inl c), fun k h1 h2 => q4.2.1 k (.inr ⟨h1, h2⟩) (by have := h.lt; omega)⟩
end
def b29 : List UInt8 := [71, 69, 84, 32, 47, 32, 72, 84, 84, 80, 47, 49, 46, 49, 13, 10, 72, 111, 115, 116, 58, 32, 97, 13, 10, 13, 10, 71, 69]
def r29 : Rd := ⟨⟨#[71, 69, 84]⟩, ⟨#[47]⟩, 1, [(⟨#[72, 111, 115, 116]⟩, ⟨#[97]⟩)], [], 27, 0⟩
theorem req29 : reqQ b29 = r29 := by kernel_rfl
end Go.Proofs.YtemmmdhmkegaaaaGreatDoor

/- Conn: the document's example, the walk. -/
namespace Go.Proofs.YtemmmdhmkegaaaaGreatDoor
open Go.RowKit
set_option linter.unusedVariables false

def c0s : Cs := ⟨b29, [], 0, false, false, false⟩
def c1s : Cs := ⟨[71, 69], [], 0, true, false, false⟩
def c2s : Cs := ⟨[], [115, 97, 105, 100], 0, false, false, true⟩
def c3s : Cs := ⟨[], [115, 97, 105, 100], 3, false, false, true⟩
def c4s : Cs := ⟨[], [100], 0, false, false, true⟩
theorem al_feed : feedS newS (tot [[], []]) 1000 b29 = (c0s, true) := by kernel_rfl
theorem al_next : nextS c0s = (c1s, r29, 0) := by unfold nextS; rw [show reqQ c0s.li = r29 from req29]; kernel_rfl
theorem al_busy : nextS c1s = (c1s, rdNo 0, -1) := rfl
theorem al_say : sayS c1s (tot [[71, 69], []]) 1000 [115, 97, 105, 100] true = (c2s, true) := by kernel_rfl
theorem al_win : windowS c2s 3 = c3s := by kernel_rfl
theorem al_want : wantS c3s = 3 := by kernel_rfl
theorem al_n : writeN c3s 9 = 3 := by kernel_rfl
theorem al_write : writeS c3s 9 = c4s := by unfold writeS; rw [al_n]; kernel_rfl
theorem isM_start {w : World} (a : Int) (h0 : 0 ≤ a) (h1 : a ≤ 1099511627776) : Many (fun k => k < w.heap.size) w (w.alloc (.cells #[.int .i64 (mst a), .int .i64 0, .int .i64 0] 79)) w.heap.size [] [] a 0 := by
  have e : mst a = a := mst_in h0 h1
  rw [e]
  exact many_start (tblk_new _ _) h0 h1 (Nat.le_refl _) ((Below.refl _ _).alloc (Nat.le_refl _) _)
set_option maxRecDepth 100000 in
set_option maxHeartbeats 4000000 in
theorem alive18_any (w : World) (hM : MaxL w) : Calls Tryz.prog 10 #[] w fun e w' => e = .returned (.bool true) ∧ Below w.heap.size w w' := by
  have HM : Hid (MaxL w) := hM
  clear hM
  go_enter Tryz.func10, Tryz.ntmps10
  go_wp2_with fail
  refine (new_any 1000 _).mono ?_
  rintro e w' ⟨rfl, hw'⟩
  have M0 : Many (fun k => k < w.heap.size) w w' w.heap.size [] [] 1000 0 := by rw [hw']; exact isM_start 1000 (by decide) (by decide)
  clear hw'
  go_wp2_with fail
  refine (conew_any M0).mono ?_
  rintro e w2 ⟨b, rs, rfl, hb, C0, hl, B0⟩
  have C1 : Cn (fun k => k < w.heap.size ∨ k = b) w w2 w.heap.size rs [[], []] 1000 b 0 newS := C0
  have hrl : rs.length = 2 := hl
  clear C0 M0 B0 hl
  have hcs := fun C : Array Value => conv_same w2 C 29 29
  go_wp2_with fail
  refine (cofeed_new C1 ((Below.refl _ _).alloc (Nat.le_refl _) _) w2.heap.size b29 _ (lit_src w2 b29 29 _ _ rfl (by decide) rfl) (.inr ⟨Nat.le_refl _, by simp⟩)).mono ?_
  rw [al_feed]
  rintro e w3 ⟨rfl, A3⟩
  have C3 : Cn (fun k => k < w.heap.size ∨ k = b) w w3 w.heap.size rs [b29, []] 1000 b 0 c0s := A3.1
  clear A3 C1
  have HN := conext_all C3 (by decide) (HM.out.below C3.bel)
  rw [al_next] at HN
  unfold nxV r29 at HN
  simp only at HN
  go_wp2_with fail
  refine HN.mono ?_
  rintro e w4 ⟨fa, ba, fc, bc, rfl, -, -, A4⟩
  have C4 : Cn (fun k => k < w.heap.size ∨ k = b) w w4 w.heap.size rs [[71, 69], []] 1000 b 0 c1s := A4.1
  clear HN A4 C3
  have B4 : Below w4.heap.size w4 (w4.alloc (.cells #[.string ⟨#[71, 69, 84]⟩, .string ⟨#[47]⟩, .int .i64 1, .slice fa 1 fc, .slice ba 0 bc] 43)) := (Below.refl _ _).alloc (Nat.le_refl _) _
  have hr4 := tblk_new w4 (.cells #[.string ⟨#[71, 69, 84]⟩, .string ⟨#[47]⟩, .int .i64 1, .slice fa 1 fc, .slice ba 0 bc] 43)
  have HN := conext_new C4 B4 (by decide) (HM.out.below (C4.bel.trans (B4.mono C4.bel.size)))
  rw [al_busy] at HN
  unfold nxV rdNo at HN
  simp only [List.length_nil] at HN
  go_wp2_with fail
  refine HN.mono ?_
  rintro e w5 ⟨fa5, ba5, fc5, bc5, rfl, -, -, A5, K5⟩
  have C5 : Cn (fun k => k < w.heap.size ∨ k = b) w w5 w.heap.size rs [[71, 69], []] 1000 b 0 c1s := A5.1
  have hr5 := (K5 _ (Nat.le_refl _) (heap_lt hr4)).trans hr4
  have B6 : Below w5.heap.size w5 (w5.alloc (.cells #[.string ⟨#[]⟩, .string ⟨#[]⟩, .int .i64 0, .slice fa5 0 fc5, .slice ba5 0 bc5] 43)) := (Below.refl _ _).alloc (Nat.le_refl _) _
  have hr6 := tblk_below hr5 B6
  have y0 := tblk_cell (i := 0) hr6 rfl
  have C6 := C5.below B6
  have HB := cobusy_any C6
  have HL := coheld_any C6
  clear HN A5 K5 hr4 hr5 hr6 C4 B4 C5
  go_wp2_with fail
  refine HB.mono ?_
  rintro e w' ⟨rfl, hw⟩
  rw [hw]
  clear hw HB
  go_wp2_with fail
  refine HL.mono ?_
  rintro e w7 ⟨rfl, B7⟩
  have C7 := C6.below B7
  clear HL C6 y0
  have hcs := fun C : Array Value => conv_same w7 C 4 4
  go_wp2_with fail
  have hne : w7.heap.size ≠ b := by have := C7.lt; omega
  refine (cosay_new C7 ((Below.refl _ _).alloc (Nat.le_refl _) _) w7.heap.size [115, 97, 105, 100] _ true (lit_src w7 [115, 97, 105, 100] 4 _ _ rfl (by decide) rfl) (.inr ⟨Nat.le_refl _, by simp⟩) hne).mono ?_
  rw [al_say]
  rintro e w8 ⟨rfl, A8⟩
  have C8 : Cn (fun k => k < w.heap.size ∨ k = b) w w8 w.heap.size rs [[], [115, 97, 105, 100]] 1000 b 0 c2s := A8.1
  clear A8 C7 hcs
  go_wp2_with fail
  refine (coclosing_any C8).mono ?_
  rintro e w' ⟨rfl, hw⟩
  rw [hw]
  clear hw
  go_wp2_with fail
  refine (cowindow_any C8 3).mono ?_
  rw [al_win]
  rintro e w9 ⟨rfl, A9⟩
  have C9 : Cn (fun k => k < w.heap.size ∨ k = b) w w9 w.heap.size rs [[], [115, 97, 105, 100]] 1000 b 0 c3s := A9.1
  clear A9 C8
  go_wp2_with fail
  refine (cowant_any C9).mono ?_
  rw [al_want]
  rintro e w10 ⟨rfl, B10⟩
  have C10 := C9.below B10
  clear C9 B10
  go_wp2_with fail
  refine (cowrite_any C10 9).mono ?_
  rw [al_n, al_write]
  rintro e w11 ⟨g, rfl, hg, hrow, A11⟩
  have C11 : Cn (fun k => k < w.heap.size ∨ k = b) w w11 w.heap.size rs [[], [100]] 1000 b 0 c4s := A11.1.weak (fun _ h => .inl h) C10.own
  have hcb := conv_back (src_row (n := 3) (l := [115, 97, 105]) hrow rfl (by decide)) (by decide)
  clear A11 C10 hrow
  go_wp2_with fail
  refine (codone_any C11).mono ?_
  rw [show doneS c4s = false from rfl]
  rintro e w' ⟨rfl, hw⟩
  rw [hw]
  clear hw
  obtain ⟨p, HK⟩ := C11.many
  have hbel := C11.bel
  have HB : Hid (Below w.heap.size w w11) := hbel
  have HD := held_q w.heap.size 1000 _ p w11 HK.isM
  clear C11 HK hbel
  go_wp2_with fail
  refine HD.mono ?_
  rintro e w' ⟨rfl, hw⟩
  rw [hw]
  clear hw HD hcb
  go_wp2
  go_ret
  exact ⟨rfl, HB.out⟩
end Go.Proofs.YtemmmdhmkegaaaaGreatDoor
