/- Whatever the bytes, HttpHeads answers true: Head tells of every request the head that Request tells, and how many bytes it has; no condition. -/
import Derived.Test.YthbjdbookiejeabGreatDoorKg
import Derived.Test.YthbjdbookiejeabGreatDoorKe
import Derived.Test.YthbjdbookiejeabGreatDoorKh
import Derived.Test.YthbjdbookiejeabGreatDoorRows
import Derived.Test.YthbjdbookiejeabGreatDoorCards
import Derived.Test.YthbjdbookiejeabGreatDoorTie
import Derived.Test.YthbjdbookiejeabGreatDoorKf
import Derived.WalkKit
import Derived.ProofKit
import Derived.OpenShut
import Derived.ShutString
import Derived.ChangeOld
import Derived.Below
import Derived.LaidMore
import Derived.Lay
import Derived.Stop.Joined
import Derived.SevenTiedAt
import Derived.Shelf.Vars
import Derived.Deep.DeepHandedRow
import Derived.Deep.DeepWitnessRowRef
/- Messages, plain: what is told of a beginning is told of more; a head's end; a head with an end of a line put in. -/
namespace Go.Proofs.YthbjdbookiejeabGreatDoor
open Go.RowKit
set_option linter.unusedVariables false

theorem hst_ne {e : Int} (f : Bool) (h : ¬ e = 0) : hst f e = 400 := by unfold hst; rw [if_neg h]
theorem take_app {l more : List UInt8} {i : Nat} (h : i ≤ l.length) : (l ++ more).take i = l.take i := List.take_append_of_le_length h
theorem drop_app {l more : List UInt8} {i : Nat} (h : i ≤ l.length) : (l ++ more).drop i = l.drop i ++ more := List.drop_append_of_le_length h
def DoneH (R : Fs × Nat × Int) : Prop := R.2.1 ≠ 0 ∨ R.2.2 ≠ 0
theorem done_plusH {a : Fs} {i : Nat} {R : Fs × Nat × Int} (h : DoneH (plusH a i R)) : DoneH R := by
  unfold plusH DoneH at *
  by_cases h0 : R.2.1 = 0
  · rw [if_pos h0] at h
    rcases h with k | k
    · exact absurd rfl k
    · exact .inr k
  · exact .inl h0
theorem fldL_app (more : List UInt8) (f' : Bool) : ∀ (r : Nat) (l : List UInt8), DoneH (fldL false r l) → fldL f' r (l ++ more) = fldL false r l := by
  intro r
  induction r with
  | zero =>
    intro l hd
    rcases cut_cases 2048 l with ⟨i, hc, hl, _⟩ | ⟨e, hc⟩
    · have hc2 := cutAt_app 2048 more l 0 (by rw [hc]; simp)
      rw [hc] at hc2
      by_cases hi : i = 0
      · subst hi; rw [fldL_end hc, fldL_end hc2]
      · have ht : (l ++ more).take i = l.take i := take_app (by omega)
        cases hf : fldOk (l.take i)
        · rw [fldL_bad hc hi hf, fldL_bad hc2 hi (by rw [ht]; exact hf)]
        · rw [fldL_many hc hi hf, fldL_many hc2 hi (by rw [ht]; exact hf)]
    · rw [fldL_miss hc] at hd ⊢
      have h0 : ¬ e = 0 := by
        intro h
        subst h
        rcases hd with k | k
        · exact absurd rfl k
        · exact absurd rfl k
      have hc2 := cutAt_app 2048 more l 0 (by rw [hc]; simpa using h0)
      rw [hc] at hc2
      rw [fldL_miss hc2, hst_ne _ h0, hst_ne _ h0]
  | succ r ih =>
    intro l hd
    rcases cut_cases 2048 l with ⟨i, hc, hl, _⟩ | ⟨e, hc⟩
    · have hc2 := cutAt_app 2048 more l 0 (by rw [hc]; simp)
      rw [hc] at hc2
      by_cases hi : i = 0
      · subst hi; rw [fldL_end hc, fldL_end hc2]
      · have ht : (l ++ more).take i = l.take i := take_app (by omega)
        cases hf : fldOk (l.take i)
        · rw [fldL_bad hc hi hf, fldL_bad hc2 hi (by rw [ht]; exact hf)]
        · rw [fldL_next hc hi hf] at hd ⊢
          rw [fldL_next hc2 hi (by rw [ht]; exact hf), ht, drop_app hl, ih _ (done_plusH hd)]
    · rw [fldL_miss hc] at hd ⊢
      have h0 : ¬ e = 0 := by
        intro h
        subst h
        rcases hd with k | k
        · exact absurd rfl k
        · exact absurd rfl k
      have hc2 := cutAt_app 2048 more l 0 (by rw [hc]; simpa using h0)
      rw [hc] at hc2
      rw [fldL_miss hc2, hst_ne _ h0, hst_ne _ h0]
/-- What is told of a head's beginning. -/
theorem headL_app (st : ByteArray → Int) (b more : List UInt8) (h : DoneH (headL st b)) : headL st (b ++ more) = headL st b ∧ (¬ (headL st b).2.1 = 0 → firstL (b ++ more) = firstL b) := by
  by_cases hf : 2048 ≤ b.length
  · have e1 : (b ++ more).take 2048 = b.take 2048 := take_app hf
    have e2 : fullB (b ++ more) = fullB b := by
      unfold fullB
      rw [decide_eq_true hf, decide_eq_true (by rw [List.length_append]; omega)]
    unfold headL firstL
    rw [e1, e2]
    exact ⟨rfl, fun _ => rfl⟩
  · have e1 : (b ++ more).take 2048 = b ++ more.take (2048 - b.length) := by
      rw [List.take_append, List.take_of_length_le (by omega)]
    have e2 : b.take 2048 = b := List.take_of_length_le (by omega)
    have e3 : fullB b = false := by unfold fullB; rw [decide_eq_false hf]
    generalize more.take (2048 - b.length) = m2 at e1
    rcases cut_cases 2048 b with ⟨i, hc, hl, _⟩ | ⟨e, hc⟩
    · have hc2 := cutAt_app 2048 m2 b 0 (by rw [hc]; simp)
      rw [hc] at hc2
      have ht : (b ++ m2).take i = b.take i := take_app (by omega)
      have hcb : cutAt 2048 0 (b.take 2048) = (some i, 0) := by rw [e2]; exact hc
      have hcm : cutAt 2048 0 ((b ++ more).take 2048) = (some i, 0) := by rw [e1]; exact hc2
      have hfl : firstL (b ++ more) = firstL b := by rw [firstL_hit hcb, firstL_hit hcm, e1, e2, ht]
      by_cases hs : st (tx ((b.take 2048).take i)) = 0
      · have hs2 : st (tx (((b ++ more).take 2048).take i)) = 0 := by rw [e1, ht]; rw [e2] at hs; exact hs
        rw [headL_hit hcb hs, e2, e3] at h ⊢
        rw [headL_hit hcm hs2, e1, drop_app hl, fldL_app _ _ _ _ (done_plusH h)]
        exact ⟨rfl, fun _ => hfl⟩
      · have hs2 : ¬ st (tx (((b ++ more).take 2048).take i)) = 0 := by rw [e1, ht]; rw [e2] at hs; exact hs
        rw [headL_bad hcb hs, headL_bad hcm hs2, e1, e2, ht]
        exact ⟨rfl, fun k => absurd rfl k⟩
    · have hcb : cutAt 2048 0 (b.take 2048) = (none, e) := by rw [e2]; exact hc
      rw [headL_miss hcb, e3] at h ⊢
      have h0 : ¬ e = 0 := by
        intro k
        subst k
        rcases h with k | k
        · exact absurd rfl k
        · exact absurd rfl k
      have hc2 := cutAt_app 2048 m2 b 0 (by rw [hc]; simpa using h0)
      rw [hc] at hc2
      have hcm : cutAt 2048 0 ((b ++ more).take 2048) = (none, e) := by rw [e1]; exact hc2
      rw [headL_miss hcm, hst_ne _ h0, hst_ne _ h0]
      exact ⟨rfl, fun k => absurd rfl k⟩
theorem headQ_app (b more : List UInt8) (h : ¬ (headQ b).n = 0 ∨ ¬ (headQ b).st = 0) : headQ (b ++ more) = headQ b := by
  have hd : DoneH (headL rqSt b) := by
    unfold headQ at h
    by_cases h0 : (headL rqSt b).2.1 = 0
    · rw [if_pos h0] at h
      rcases h with k | k
      · exact absurd rfl k
      · exact .inr k
    · exact .inl h0
  obtain ⟨e1, e2⟩ := headL_app rqSt b more hd
  unfold headQ
  rw [e1]
  by_cases h0 : (headL rqSt b).2.1 = 0
  · rw [if_pos h0, if_pos h0]
  · rw [if_neg h0, if_neg h0, e2 h0]
theorem bodyQ_app (b more : List UInt8) (n : Nat) (size : Int) (coded : Bool) (hn : n ≤ b.length) (h : ¬ (bodyQ b n size coded).2.1 = 0 ∨ ¬ (bodyQ b n size coded).2.2 = 0) (hs : 0 ≤ size) : bodyQ (b ++ more) n size coded = bodyQ b n size coded := by
  unfold bodyQ at *
  rw [drop_app hn]
  cases coded
  · simp only [Bool.false_eq_true, if_false] at h ⊢
    by_cases hl : ((b.length - n : Nat) : Int) < size
    · rw [if_pos hl] at h
      rcases h with k | k
      · exact absurd rfl k
      · exact absurd rfl k
    · rw [if_neg hl, if_neg (by rw [List.length_append]; omega), take_app (by rw [List.length_drop]; omega)]
  · simp only [if_true] at h ⊢
    have hd : Done (decR 4096 (b.drop n)) := by
      by_cases h0 : (decR 4096 (b.drop n)).2.1 = 0
      · rw [if_pos h0] at h
        rcases h with k | k
        · exact absurd rfl k
        · exact .inr k
      · exact .inl h0
    rw [decR_app _ _ _ hd]
theorem bodySt_zero {e : Int} (h : ¬ bodySt e = 0) : ¬ e = 0 := by
  intro k; subst k; exact h rfl
theorem reqQ_app (b more : List UInt8) (h : ¬ (reqQ b).n = 0 ∨ ¬ (reqQ b).st = 0) : reqQ (b ++ more) = reqQ b := by
  have ok := headQ_ok b
  unfold reqQ at h ⊢
  by_cases h0 : (headQ b).n = 0
  · rw [if_pos h0] at h ⊢
    have e := headQ_app b more (.inr (by rcases h with k | k; exact absurd rfl k; exact k))
    rw [e, if_pos h0]
  · rw [if_neg h0] at h ⊢
    have e := headQ_app b more (.inl h0)
    rw [e, if_neg h0]
    have hb : ¬ (bodyOf (headQ b) b).2.1 = 0 ∨ ¬ (bodyOf (headQ b) b).2.2 = 0 := by
      unfold rdOf at h
      by_cases h1 : (bodyOf (headQ b) b).2.1 = 0
      · rw [if_pos h1] at h
        rcases h with k | k
        · exact absurd rfl k
        · exact .inr (bodySt_zero k)
      · exact .inl h1
    have k : bodyOf (headQ b) (b ++ more) = bodyOf (headQ b) b := bodyQ_app b more _ _ _ ok.le.1 hb (told_nn _ _).1
    rw [k]
end Go.Proofs.YthbjdbookiejeabGreatDoor

/- Heads, plain: a head's last four bytes; what Request tells of a head. -/
namespace Go.Proofs.YthbjdbookiejeabGreatDoor
open Go.RowKit
set_option linter.unusedVariables false

theorem fldL_tail (full : Bool) : ∀ (r : Nat) (l : List UInt8), ¬ (fldL full r l).2.1 = 0 → ∃ X, [13, 10] ++ l.take (fldL full r l).2.1 = X ++ [13, 10, 13, 10] := by
  intro r
  induction r with
  | zero =>
    intro l h
    rcases cut_cases 2048 l with ⟨i, hc, hl, ht⟩ | ⟨e, hc⟩
    · by_cases hi : i = 0
      · subst hi
        rw [fldL_end hc]
        exact ⟨[], by simp only; rw [show (2 : Nat) = 0 + 2 from rfl, ht]; rfl⟩
      · cases hf : fldOk (l.take i)
        · rw [fldL_bad hc hi hf] at h; exact absurd rfl h
        · rw [fldL_many hc hi hf] at h; exact absurd rfl h
    · rw [fldL_miss hc] at h; exact absurd rfl h
  | succ r ih =>
    intro l h
    rcases cut_cases 2048 l with ⟨i, hc, hl, ht⟩ | ⟨e, hc⟩
    · by_cases hi : i = 0
      · subst hi
        rw [fldL_end hc]
        exact ⟨[], by simp only; rw [show (2 : Nat) = 0 + 2 from rfl, ht]; rfl⟩
      · cases hf : fldOk (l.take i)
        · rw [fldL_bad hc hi hf] at h; exact absurd rfl h
        · rw [fldL_next hc hi hf] at h ⊢
          unfold plusH at h ⊢
          by_cases h0 : (fldL full r (l.drop (i + 2))).2.1 = 0
          · rw [if_pos h0] at h; exact absurd rfl h
          · rw [if_neg h0]
            obtain ⟨X, hX⟩ := ih _ h0
            refine ⟨[13, 10] ++ l.take i ++ X, ?_⟩
            simp only
            rw [List.take_add, ht, List.append_assoc, hX]
            simp only [List.append_assoc]
    · rw [fldL_miss hc] at h; exact absurd rfl h
theorem headL_tail (st : ByteArray → Int) (b : List UInt8) (h : ¬ (headL st b).2.1 = 0) : ∃ X, b.take (headL st b).2.1 = X ++ [13, 10, 13, 10] := by
  have ok := headL_ok st b
  have hle : (headL st b).2.1 ≤ 2048 := by have := ok.le; omega
  have e : b.take (headL st b).2.1 = (b.take 2048).take (headL st b).2.1 := by rw [List.take_take, Nat.min_eq_left hle]
  rw [e]
  rcases cut_cases 2048 (b.take 2048) with ⟨i, hc, hl, ht⟩ | ⟨e, hc⟩
  · by_cases hs : st (tx ((b.take 2048).take i)) = 0
    · rw [headL_hit hc hs] at h ⊢
      unfold plusH at h ⊢
      by_cases h0 : (fldL (fullB b) 40 ((b.take 2048).drop (i + 2))).2.1 = 0
      · rw [if_pos h0] at h; exact absurd rfl h
      · rw [if_neg h0]
        obtain ⟨X, hX⟩ := fldL_tail _ _ _ h0
        refine ⟨(b.take 2048).take i ++ X, ?_⟩
        simp only
        rw [List.take_add, ht, List.append_assoc, List.append_assoc, ← hX]
    · rw [headL_bad hc hs] at h; exact absurd rfl h
  · rw [headL_miss hc] at h; exact absurd rfl h
theorem headQ_n {b : List UInt8} (h : ¬ (headQ b).n = 0) : (headQ b).n = (headL rqSt b).2.1 := by
  unfold headQ at h ⊢
  by_cases h0 : (headL rqSt b).2.1 = 0
  · rw [if_pos h0] at h; exact absurd rfl h
  · rw [if_neg h0] at h ⊢
    by_cases h1 : headSt (headL rqSt b).1 (rqP (firstL b)).minor = 0
    · rw [if_pos h1]
    · rw [if_neg h1] at h; exact absurd rfl h
theorem headQ_tail {b : List UInt8} (h : ¬ (headQ b).n = 0) : ∃ X, b.take (headQ b).n = X ++ [13, 10, 13, 10] := by
  have e := headQ_n h
  rw [e]
  exact headL_tail rqSt b (by rw [← e]; exact h)
/-- The last four bytes of a head. -/
theorem headQ_end {b : List UInt8} (h : ¬ (headQ b).n = 0) : ∃ j, (headQ b).n = j + 4 ∧ (b.take (headQ b).n).drop j = [13, 10, 13, 10] := by
  obtain ⟨X, hX⟩ := headQ_tail h
  have hn := (headQ_ok b).le.1
  have hl : (b.take (headQ b).n).length = (headQ b).n := by rw [List.length_take]; omega
  rw [hX, List.length_append] at hl
  refine ⟨X.length, hl.symm, ?_⟩
  rw [hX, List.drop_left]
theorem bodyQ_cases (b : List UInt8) (n : Nat) (size : Int) (coded : Bool) : (bodyQ b n size coded).2.1 = 0 ∨ n ≤ (bodyQ b n size coded).2.1 := by
  unfold bodyQ
  cases coded
  · simp only [Bool.false_eq_true, if_false]
    by_cases h : ((b.length - n : Nat) : Int) < size
    · rw [if_pos h]; exact .inl rfl
    · rw [if_neg h]; exact .inr (Nat.le_add_right _ _)
  · simp only [if_true]
    by_cases h : (decR 4096 (b.drop n)).2.1 = 0
    · rw [if_pos h]; exact .inl rfl
    · rw [if_neg h]; exact .inr (Nat.le_add_right _ _)
/-- What Request tells behind a head. -/
theorem reqQ_cases (b : List UInt8) : ((headQ b).n = 0 ∧ reqQ b = rdNo (headQ b).st) ∨ (¬ (headQ b).n = 0 ∧ (headQ b).st = 0 ∧ ((∃ s, reqQ b = rdNo s ∧ (s = 0 ∨ s = 400 ∨ s = 413)) ∨ ∃ x n, reqQ b = ⟨(headQ b).m, (headQ b).t, (headQ b).minor, (headQ b).fs, x, n, 0⟩ ∧ (headQ b).n ≤ n ∧ ¬ n = 0)) := by
  unfold reqQ
  by_cases h0 : (headQ b).n = 0
  · rw [if_pos h0]; exact .inl ⟨h0, rfl⟩
  · rw [if_neg h0]
    refine .inr ⟨h0, (headQ_ok b).st h0, ?_⟩
    unfold rdOf
    by_cases h1 : (bodyOf (headQ b) b).2.1 = 0
    · rw [if_pos h1]
      refine .inl ⟨_, rfl, ?_⟩
      unfold bodySt
      split
      · exact .inl rfl
      · split
        · exact .inr (.inr rfl)
        · exact .inr (.inl rfl)
    · rw [if_neg h1]
      refine .inr ⟨_, _, rfl, ?_, h1⟩
      rcases bodyQ_cases b (headQ b).n (reqF (headQ b).fs (headQ b).minor).1 (reqF (headQ b).fs (headQ b).minor).2.1 with k | k
      · exact absurd k h1
      · exact k
end Go.Proofs.YthbjdbookiejeabGreatDoor

/- HttpHeads walked. -/
namespace Go.Proofs.YthbjdbookiejeabGreatDoor
open Go.RowKit
set_option linter.unusedVariables false

set_option maxRecDepth 100000 in
set_option maxHeartbeats 4000000 in
theorem heads_walk (kb len cap : Nat) (a : Option Addr) (b : List UInt8) (w : World) (hs : Src w kb (.slice a len cap) b) (hk : 0 < b.length → kb < w.heap.size) (hL : Lv w) :
    Calls Tryz.prog 3 #[.slice a len cap] w fun e w' => e = .returned (.bool true) ∧ Below w.heap.size w w' := by
  have HA : Hid (Calls Tryz.prog 9 #[] w fun e w' => e = .returned (.bool true) ∧ Below w.heap.size w w') := asking_any w hL
  have hl := hs.len
  by_cases hbig : 4000 < len
  · have hb2 : (4000 : Int) < (len : Int) := by omega
    clear hs hk hL hl
    go_enter Tryz.func3, Tryz.ntmps3
    go_wp2_with fail
    refine HA.out.mono ?_
    rintro e w1 ⟨rfl, B1⟩
    go_wp2
    go_ret
    exact ⟨rfl, B1⟩
  · have hb2 : ¬ (4000 : Int) < (len : Int) := by omega
    obtain ⟨hl1, hl2, hl3⟩ := hl
    subst hl1
    unfold maxLen at hl3
    have HH : Hid (∀ W, Below w.heap.size w W → Calls Tryz.prog 10 #[.slice a b.length cap] W (HeadR W (headQ b))) := fun W B => head_any b kb cap a W (hs.keep hk B) (fun q => Nat.lt_of_lt_of_le (hk q) B.size) (hL.below B).max
    have HR : Hid (∀ W, Below w.heap.size w W → Calls Tryz.prog 11 #[.slice a b.length cap] W (ReqR W (reqQ b))) := fun W B => hreq_any b kb cap a W (hs.keep hk B) (fun q => Nat.lt_of_lt_of_le (hk q) B.size) (hL.below B).max (by omega)
    have hC := reqQ_cases b
    have hOK := headQ_ok b
    have hE := fun h => headQ_end (b := b) h
    generalize reqQ b = Q at *
    generalize hHd : headQ b = H at *
    clear hHd hL
    obtain ⟨m, t, mi, fs, n, st⟩ := H
    unfold HeadR hdV at HH
    simp only at HH hC hE hOK
    rcases hC with ⟨h0, hQ⟩ | ⟨h0, hst, hQ⟩
    · subst hQ h0
      have hfs : fs = [] := by have k := hOK.no rfl; injection k
      subst hfs
      unfold ReqR rdV rdNo at HR
      simp only at HR
      clear hOK hE hs hk hl2 hl3
      generalize b.length = bl at *
      by_cases hs0 : st = 0
      · subst hs0
        go_enter Tryz.func3, Tryz.ntmps3
        go_wp2_with fail
        refine HA.out.mono ?_
        rintro e w1 ⟨rfl, B1⟩
        go_wp2_with fail
        refine (HH.out _ B1).mono ?_
        rintro e w2 ⟨fa, fc, rfl, O2, B2⟩
        have D2 := B1.trans (B2.mono B1.size)
        have U3 : Below w2.heap.size w2 (w2.alloc (.cells #[.string m, .string t, .int .i64 mi, .slice fa 0 fc, .slice none 0 0] 26)) := (Below.refl _ _).alloc (Nat.le_refl _) _
        have D3 := D2.alloc D2.size (.cells #[.string m, .string t, .int .i64 mi, .slice fa 0 fc, .slice none 0 0] 26)
        have hr3 := tblk_new w2 (.cells #[.string m, .string t, .int .i64 mi, .slice fa 0 fc, .slice none 0 0] 26)
        clear HA HH B1 B2 D2 O2 U3
        go_wp2_with fail
        generalize w2.alloc (.cells #[.string m, .string t, .int .i64 mi, .slice fa 0 fc, .slice none 0 0] 26) = w3 at *
        generalize w2.heap.size = p at *
        refine (HR.out _ D3).mono ?_
        rintro e w4 ⟨ga, gb, gc, gd, rfl, _, _, B4⟩
        have U4 : Below w3.heap.size w3 (w4.alloc (.cells #[.string ⟨#[]⟩, .string ⟨#[]⟩, .int .i64 0, .slice ga 0 gc, .slice gb 0 gd] 26)) := B4.alloc B4.size _
        have D4 := D3.trans (U4.mono D3.size)
        have hr4 := tblk_below hr3 U4
        clear HR D3 B4 hr3 U4
        go_wp2
        go_ret
        exact ⟨rfl, D4⟩
      · have hs1 : (st != 0) = true := by simpa using hs0
        go_enter Tryz.func3, Tryz.ntmps3
        go_wp2_with fail
        refine HA.out.mono ?_
        rintro e w1 ⟨rfl, B1⟩
        go_wp2_with fail
        refine (HH.out _ B1).mono ?_
        rintro e w2 ⟨fa, fc, rfl, O2, B2⟩
        have D2 := B1.trans (B2.mono B1.size)
        have U3 : Below w2.heap.size w2 (w2.alloc (.cells #[.string m, .string t, .int .i64 mi, .slice fa 0 fc, .slice none 0 0] 26)) := (Below.refl _ _).alloc (Nat.le_refl _) _
        have D3 := D2.alloc D2.size (.cells #[.string m, .string t, .int .i64 mi, .slice fa 0 fc, .slice none 0 0] 26)
        have hr3 := tblk_new w2 (.cells #[.string m, .string t, .int .i64 mi, .slice fa 0 fc, .slice none 0 0] 26)
        clear HA HH B1 B2 D2 O2 U3
        go_wp2_with fail
        generalize w2.alloc (.cells #[.string m, .string t, .int .i64 mi, .slice fa 0 fc, .slice none 0 0] 26) = w3 at *
        generalize w2.heap.size = p at *
        refine (HR.out _ D3).mono ?_
        rintro e w4 ⟨ga, gb, gc, gd, rfl, _, _, B4⟩
        have U4 : Below w3.heap.size w3 (w4.alloc (.cells #[.string ⟨#[]⟩, .string ⟨#[]⟩, .int .i64 0, .slice ga 0 gc, .slice gb 0 gd] 26)) := B4.alloc B4.size _
        have D4 := D3.trans (U4.mono D3.size)
        have hr4 := tblk_below hr3 U4
        clear HR D3 B4 hr3 U4
        go_wp2
        go_ret
        exact ⟨rfl, D4⟩
    · subst hst
      obtain ⟨j, hj, hd⟩ := hE h0
      have hn2048 : n ≤ 2048 := hOK.le.2
      have hnl : n ≤ b.length := hOK.le.1
      clear hE hOK
      have hn0 : ¬ ((n : Nat) : Int) = 0 := by omega
      have hn1 : (((n : Nat) : Int) == 0) = false := by simpa using hn0
      have hsub : ((n : Nat) : Int) - 4 = (j : Int) := by omega
      have hn3 : ¬ (2048 : Int) < ((n : Nat) : Int) := by omega
      have hjn : j ≤ n := by omega
      have HN : Hid (n = j + 4) := hj
      have HCV : Hid (∀ W, Below w.heap.size w W → ∀ (a' : Option Addr), (j < cap → a' = a.map (fun x => x.add j)) → (convert 22 9 (.slice a' (n - j) (cap - j))).run Tryz.prog W = .ok (.string ⟨#[13, 10, 13, 10]⟩) W) := fun W B a' ha' => by
        have k := ((hs.keep hk B).take (m := n) hnl).cut (m := j) (by rw [List.length_take]; omega) ha'
        rw [hd] at k
        have e := conv_back k (by omega)
        exact e
      have hjc : j < cap := by omega
      rcases hQ with ⟨s, hQ, hs3⟩ | ⟨x, q, hQ, hqn, hq0⟩
      · subst hQ
        unfold ReqR rdV rdNo at HR
        simp only at HR
        clear hs hk hj hd h0
        generalize b.length = bl at *
        rcases hs3 with rfl | rfl | rfl
        · go_enter Tryz.func3, Tryz.ntmps3
          go_wp2_with fail
          refine HA.out.mono ?_
          rintro e w1 ⟨rfl, B1⟩
          go_wp2_with fail
          refine (HH.out _ B1).mono ?_
          rintro e w2 ⟨fa, fc, rfl, O2, B2⟩
          have D2 := B1.trans (B2.mono B1.size)
          have U3 : Below w2.heap.size w2 (w2.alloc (.cells #[.string m, .string t, .int .i64 mi, .slice fa fs.length fc, .slice none 0 0] 26)) := (Below.refl _ _).alloc (Nat.le_refl _) _
          have D3 := D2.alloc D2.size (.cells #[.string m, .string t, .int .i64 mi, .slice fa fs.length fc, .slice none 0 0] 26)
          have hr3 := tblk_new w2 (.cells #[.string m, .string t, .int .i64 mi, .slice fa fs.length fc, .slice none 0 0] 26)
          clear HA HH B1 B2 D2 O2 U3
          go_wp2_with fail
          generalize w2.alloc (.cells #[.string m, .string t, .int .i64 mi, .slice fa fs.length fc, .slice none 0 0] 26) = w3 at *
          generalize w2.heap.size = p at *
          refine (HR.out _ D3).mono ?_
          rintro e w4 ⟨ga, gb, gc, gd, rfl, _, _, B4⟩
          have U4 : Below w3.heap.size w3 (w4.alloc (.cells #[.string ⟨#[]⟩, .string ⟨#[]⟩, .int .i64 0, .slice ga 0 gc, .slice gb 0 gd] 26)) := B4.alloc B4.size _
          have D4 := D3.trans (U4.mono D3.size)
          have hr4 := tblk_below hr3 U4
          clear HR D3 B4 hr3 U4
          have d4 := tblk_cell (i := 4) hr4 rfl
          have hcv := HCV.out _ D4 _ (fun _ => rfl)
          clear HCV hr4
          go_wp2
          go_ret
          exact ⟨rfl, D4⟩
        · go_enter Tryz.func3, Tryz.ntmps3
          go_wp2_with fail
          refine HA.out.mono ?_
          rintro e w1 ⟨rfl, B1⟩
          go_wp2_with fail
          refine (HH.out _ B1).mono ?_
          rintro e w2 ⟨fa, fc, rfl, O2, B2⟩
          have D2 := B1.trans (B2.mono B1.size)
          have U3 : Below w2.heap.size w2 (w2.alloc (.cells #[.string m, .string t, .int .i64 mi, .slice fa fs.length fc, .slice none 0 0] 26)) := (Below.refl _ _).alloc (Nat.le_refl _) _
          have D3 := D2.alloc D2.size (.cells #[.string m, .string t, .int .i64 mi, .slice fa fs.length fc, .slice none 0 0] 26)
          have hr3 := tblk_new w2 (.cells #[.string m, .string t, .int .i64 mi, .slice fa fs.length fc, .slice none 0 0] 26)
          clear HA HH B1 B2 D2 O2 U3
          go_wp2_with fail
          generalize w2.alloc (.cells #[.string m, .string t, .int .i64 mi, .slice fa fs.length fc, .slice none 0 0] 26) = w3 at *
          generalize w2.heap.size = p at *
          refine (HR.out _ D3).mono ?_
          rintro e w4 ⟨ga, gb, gc, gd, rfl, _, _, B4⟩
          have U4 : Below w3.heap.size w3 (w4.alloc (.cells #[.string ⟨#[]⟩, .string ⟨#[]⟩, .int .i64 0, .slice ga 0 gc, .slice gb 0 gd] 26)) := B4.alloc B4.size _
          have D4 := D3.trans (U4.mono D3.size)
          have hr4 := tblk_below hr3 U4
          clear HR D3 B4 hr3 U4
          have d4 := tblk_cell (i := 4) hr4 rfl
          have hcv := HCV.out _ D4 _ (fun _ => rfl)
          clear HCV hr4
          go_wp2
          go_ret
          exact ⟨rfl, D4⟩
        · go_enter Tryz.func3, Tryz.ntmps3
          go_wp2_with fail
          refine HA.out.mono ?_
          rintro e w1 ⟨rfl, B1⟩
          go_wp2_with fail
          refine (HH.out _ B1).mono ?_
          rintro e w2 ⟨fa, fc, rfl, O2, B2⟩
          have D2 := B1.trans (B2.mono B1.size)
          have U3 : Below w2.heap.size w2 (w2.alloc (.cells #[.string m, .string t, .int .i64 mi, .slice fa fs.length fc, .slice none 0 0] 26)) := (Below.refl _ _).alloc (Nat.le_refl _) _
          have D3 := D2.alloc D2.size (.cells #[.string m, .string t, .int .i64 mi, .slice fa fs.length fc, .slice none 0 0] 26)
          have hr3 := tblk_new w2 (.cells #[.string m, .string t, .int .i64 mi, .slice fa fs.length fc, .slice none 0 0] 26)
          clear HA HH B1 B2 D2 O2 U3
          go_wp2_with fail
          generalize w2.alloc (.cells #[.string m, .string t, .int .i64 mi, .slice fa fs.length fc, .slice none 0 0] 26) = w3 at *
          generalize w2.heap.size = p at *
          refine (HR.out _ D3).mono ?_
          rintro e w4 ⟨ga, gb, gc, gd, rfl, _, _, B4⟩
          have U4 : Below w3.heap.size w3 (w4.alloc (.cells #[.string ⟨#[]⟩, .string ⟨#[]⟩, .int .i64 0, .slice ga 0 gc, .slice gb 0 gd] 26)) := B4.alloc B4.size _
          have D4 := D3.trans (U4.mono D3.size)
          have hr4 := tblk_below hr3 U4
          clear HR D3 B4 hr3 U4
          have d4 := tblk_cell (i := 4) hr4 rfl
          have hcv := HCV.out _ D4 _ (fun _ => rfl)
          clear HCV hr4
          go_wp2
          go_ret
          exact ⟨rfl, D4⟩
      · subst hQ
        unfold ReqR rdV at HR
        simp only at HR
        clear hj hd h0
        have hq1 : ¬ ((q : Nat) : Int) = 0 := by omega
        have hq2 : (((q : Nat) : Int) == 0) = false := by simpa using hq1
        have hq3 : ((n : Nat) : Int) ≤ ((q : Nat) : Int) := by omega
        clear hqn hq0
        have HSR : Hid (∀ (W : World) (a1 a2 b1 b2 : Option Addr) (c1 c2 d1 d2 : Nat) , OwnF w.heap.size W (.slice a1 fs.length c1) fs → OwnF w.heap.size W (.slice a2 fs.length c2) fs → Own w.heap.size W (.slice b1 x.length d1) x → Own w.heap.size W (.slice b2 x.length d2) x → Calls Tryz.prog 12 #[.agg #[.string m, .string t, .int .i64 mi, .slice a1 fs.length c1, .slice b1 x.length d1], .agg #[.string m, .string t, .int .i64 mi, .slice a2 fs.length c2, .slice b2 x.length d2]] W fun e w' => e = .returned (.bool true) ∧ Below W.heap.size W w') := fun W a1 a2 b1 b2 c1 c2 d1 d2 f1 f2 s1 s2 => by
          obtain ⟨k1, S1, K1⟩ := s1.src
          obtain ⟨k2, S2, K2⟩ := s2.src
          exact samereq_eq m t mi fs x a1 a2 b1 b2 c1 c2 d1 d2 k1 k2 W f1.fds f2.fds S1 (fun q => (K1 q).2) S2 (fun q => (K2 q).2)
        clear hs hk
        generalize b.length = bl at *
        go_enter Tryz.func3, Tryz.ntmps3
        go_wp2_with fail
        refine HA.out.mono ?_
        rintro e w1 ⟨rfl, B1⟩
        go_wp2_with fail
        refine (HH.out _ B1).mono ?_
        rintro e w2 ⟨fa, fc, rfl, O2, B2⟩
        have D2 := B1.trans (B2.mono B1.size)
        have U3 : Below w2.heap.size w2 (w2.alloc (.cells #[.string m, .string t, .int .i64 mi, .slice fa fs.length fc, .slice none 0 0] 26)) := (Below.refl _ _).alloc (Nat.le_refl _) _
        have D3 := D2.alloc D2.size (.cells #[.string m, .string t, .int .i64 mi, .slice fa fs.length fc, .slice none 0 0] 26)
        have hr3 := tblk_new w2 (.cells #[.string m, .string t, .int .i64 mi, .slice fa fs.length fc, .slice none 0 0] 26)
        have hszw := D2.size
        have hsz1 := B1.size
        have HO2 : Hid (OwnF w1.heap.size w2 (.slice fa fs.length fc) fs) := O2
        have hk3 : ∀ k, k < w2.heap.size → (w2.alloc (.cells #[.string m, .string t, .int .i64 mi, .slice fa fs.length fc, .slice none 0 0] 26)).heap[k]? = w2.heap[k]? := fun k hk => U3.block k hk
        clear HA HH B1 B2 D2 O2 U3
        go_wp2_with fail
        generalize w2.alloc (.cells #[.string m, .string t, .int .i64 mi, .slice fa fs.length fc, .slice none 0 0] 26) = w3 at *
        have hp3 := heap_lt hr3
        have hpw : w.heap.size ≤ w2.heap.size := hszw
        generalize hpd : w2.heap.size = p at *
        have HPD : Hid (w2.heap.size = p) := hpd
        clear hpd
        refine (HR.out _ D3).mono ?_
        rintro e w4 ⟨ga, gb, gc, gd, rfl, G4, P4, B4⟩
        have U4 : Below w3.heap.size w3 (w4.alloc (.cells #[.string m, .string t, .int .i64 mi, .slice ga fs.length gc, .slice gb x.length gd] 26)) := B4.alloc B4.size _
        have U5 : Below w4.heap.size w4 (w4.alloc (.cells #[.string m, .string t, .int .i64 mi, .slice ga fs.length gc, .slice gb x.length gd] 26)) := (Below.refl _ _).alloc (Nat.le_refl _) _
        have D4 := D3.trans (U4.mono D3.size)
        have hr4 := tblk_below hr3 U4
        have hq4 := tblk_new w4 (.cells #[.string m, .string t, .int .i64 mi, .slice ga fs.length gc, .slice gb x.length gd] 26)
        have G5 := G4.keep U5
        have P5 := P4.keep U5
        have hpq : ¬ w4.heap.size = p := by have := B4.size; omega
        have hs34 : w3.heap.size ≤ w4.heap.size := B4.size
        clear HR B4 hr3 U5 G4 P4
        generalize hxl : x.length = xl at *
        generalize hfl : fs.length = fl at *
        have HXL : Hid (x.length = xl) := hxl
        have HFL : Hid (fs.length = fl) := hfl
        clear hxl hfl
        have d4 := tblk_cell (i := 4) hr4 rfl
        have z4 := lblk_z (i := 4) hr4
        have e4 := tblk_cell (i := 4) hq4 rfl
        have hcv := HCV.out _ D4 _ (fun _ => rfl)
        have hr6 := field4 (v := .slice gb xl gd) hr4
        have hq6 : ((w4.alloc (.cells #[.string m, .string t, .int .i64 mi, .slice ga fl gc, .slice gb xl gd] 26)).setCell ⟨p, 4, none⟩ (.slice gb xl gd)).heap[w4.heap.size]? = some (.cells #[.string m, .string t, .int .i64 mi, .slice ga fl gc, .slice gb xl gd] 26) := (set_away hpq).trans hq4
        have D6 : Below w.heap.size w ((w4.alloc (.cells #[.string m, .string t, .int .i64 mi, .slice ga fl gc, .slice gb xl gd] 26)).setCell ⟨p, 4, none⟩ (.slice gb xl gd)) := D4.setCell (p := ⟨p, 4, none⟩) hpw _
        have F1 : Hid (OwnF w.heap.size ((w4.alloc (.cells #[.string m, .string t, .int .i64 mi, .slice ga fl gc, .slice gb xl gd] 26)).setCell ⟨p, 4, none⟩ (.slice gb xl gd)) (.slice fa fl fc) fs) := (OwnF.kept HO2.out (fun k h1 h2 => (set_away (by have := HPD.out; omega)).trans ((U4.block k (by have := HPD.out; omega)).trans (hk3 k (by have := HPD.out; omega))))).mono hsz1
        have F2 : Hid (OwnF w.heap.size ((w4.alloc (.cells #[.string m, .string t, .int .i64 mi, .slice ga fl gc, .slice gb xl gd] 26)).setCell ⟨p, 4, none⟩ (.slice gb xl gd)) (.slice ga fl gc) fs) := (OwnF.kept G5 (fun k h1 h2 => set_away (by omega))).mono D3.size
        have F3 : Hid (Own w.heap.size ((w4.alloc (.cells #[.string m, .string t, .int .i64 mi, .slice ga fl gc, .slice gb xl gd] 26)).setCell ⟨p, 4, none⟩ (.slice gb xl gd)) (.slice gb xl gd) x) := (Own.kept P5 (fun k h1 h2 => set_away (by omega))).mono D3.size
        have x0 := tblk_cell (i := 0) hr6 rfl
        have x1 := tblk_cell (i := 1) hr6 rfl
        have x2 := tblk_cell (i := 2) hr6 rfl
        have x3 := tblk_cell (i := 3) hr6 rfl
        have x4 := tblk_cell (i := 4) hr6 rfl
        have y0 := tblk_cell (i := 0) hq6 rfl
        have y1 := tblk_cell (i := 1) hq6 rfl
        have y2 := tblk_cell (i := 2) hq6 rfl
        have y3 := tblk_cell (i := 3) hq6 rfl
        have y4 := tblk_cell (i := 4) hq6 rfl
        clear hr4 hr6 hq4 hq6 G5 P5 HO2 hk3 hs34 hsz1 hszw hp3 hpw hpq U4 D3
        go_wp2_with fail
        clear x0 x1 x2 x3 x4 y0 y1 y2 y3 y4 d4 z4 e4 hcv
        refine (HSR.out _ fa ga gb gb fc gc gd gd F1.out F2.out F3.out F3.out).mono ?_
        rintro e w7 ⟨rfl, B7⟩
        have D7 := D6.trans (B7.mono D6.size)
        go_wp2
        go_ret
        exact ⟨rfl, D7⟩
end Go.Proofs.YthbjdbookiejeabGreatDoor

/- Whatever the bytes, HttpHeads answers true: Head tells of every request the head that Request tells, and how many bytes it has; no condition. -/
namespace Go.Proofs.YthbjdbookiejeabGreatDoor.httpHeads
open Go.ChangeShapes Go.WideShapes Go.ChangeAt Go.RowKit
open Go.ChangeMaps (open_string shut_string)
set_option linter.unusedVariables false

theorem own : ownKnob Tryz.prog.godebug = none := by kernel_rfl
theorem laidOut : laidOutB Tryz.prog = true := by kernel_rfl
theorem maxL_of {W : World} (hsh : W.ShapedOpen Tryz.prog) : MaxL W :=
  cell_of_shapedOpen_int (P := Tryz.prog) (g := 0) (t := 3) (zero := #[.int .i64 0]) hsh (of_decide_eq_true (by kernel_rfl)) (by kernel_rfl) rfl (by kernel_rfl) (by kernel_rfl) Tryz.underlying3
noncomputable def laidWorld (os : Os) : World := World.laidAll Tryz.prog os Rows.httpHeadsRow.laid
theorem laid_met (os : Os) : laidMetH Tryz.prog Rows.httpHeadsRow.laid ((laidWorld os).forCall (fun _ _ => 0) ⟨#[], #[.slice none 0 0], []⟩).memory := by
  rw [MakeChecks.laidMetH_plain _ _ _ (by kernel_rfl)]
  exact laidMet_laidAll _ (by kernel_rfl) (by kernel_rfl)
set_option maxRecDepth 100000 in
theorem lifted (os : Os) (started : os.Started) (H : Type) (enc : TypeId × Value → H) (F : Stop.Interp) :
    ReturnsInHanded {} Tryz.checked os 3 .any ((OpenSpec.ofChange Rows.httpHeadsSpec).preRow enc Tryz.prog Tryz.f3 Rows.httpHeadsRow.domain false Rows.httpHeadsRow.laid) (((OpenSpec.ofChange Rows.httpHeadsSpec).at F).post enc Tryz.prog Tryz.f3 false true false false) := by
  obtain ⟨places, hx⟩ := (⟨[], by kernel_rfl⟩ : ∃ places, DataW.whole enc Tryz.prog ((laidWorld os).forCall (fun _ _ => 0) ⟨#[], #[.slice none 0 0], []⟩).memory Tryz.f3.params.toList Rows.httpHeadsSpec.vars false (#[.slice none 0 0] : Array Value).toList 8 = some ([.nil], [], places))
  refine returnsInHanded_of_row (C := Tryz.checked) (s := OpenSpec.ofChange Rows.httpHeadsSpec) own started (by kernel_rfl) Tryz.func3
    (witness_row_atRef (enc := enc) (C := Tryz.checked) false (laidWorld os) #[.slice none 0 0] rfl (by kernel_rfl) (by kernel_rfl) (by kernel_rfl)
      (OpenSpec.preRow_of_cond 8 hx (by kernel_rfl) (fun k hk => by cases hk) (by kernel_rfl) (laid_met os))) ?_
  intro W base args ds gs before hval0 hW _ hcond hsz hlaid hsh _
  have hM := maxL_of hsh
  clear hsh
  have hval : ∀ (j : Nat) t v, Tryz.f3.params[j]? = some t → args[j]? = some v → Value.okWide Tryz.prog W .any base t v := hval0
  have hW' := hW
  obtain ⟨p, q, hA0, hV, rfl, hfz, hnd⟩ := hW
  have hA : DataW.TrodAll enc Tryz.prog W 0 (fun _ => true) true Tryz.f3.params.toList args.toList ds p := hA0
  rw [Tryz.params3] at hA hval
  obtain ⟨v0, vs0, d0, ds0, p0, q0, hargs, rfl, rfl, h0, r0⟩ := trodAll_cons hA
  obtain ⟨rfl, rfl, rfl⟩ := trodAll_nil r0
  obtain rfl : args = #[v0] := by cases args; simp_all
  obtain ⟨rfl, rfl⟩ := trodVars_none hV
  obtain ⟨a0, len0, cap0, rfl⟩ := okWide_slice Tryz.underlying22 (hval 0 22 v0 rfl rfl)
  have k0 := h0
  have lt0 : ∀ x ∈ p0, x.block < W.heap.size := by obtain ⟨m, hm⟩ := k0; exact DataW.trod_lt m _ _ _ hm
  obtain ⟨kb0, b0, w0, hk0, hn0⟩ := open_bytes h0
  clear hA0 hval0
  have hP := pow_of (l := Rows.httpHeadsRow.laid) (by kernel_rfl) hlaid
  refine (heads_walk kb0 len0 cap0 a0 b0 W w0 hk0 ⟨hM, hP⟩).mono fun e W' ⟨he, bel⟩ => ?_
  subst he
  exact ⟨_, rfl, _, _, _, [], _, [], hW', trodAll_mk1 (shut_bool Tryz.underlying4 _), (trodAll_cons_mk (Below.trod laidOut (by kernel_rfl) (of_decide_eq_true (by kernel_rfl)) k0 bel lt0) trodAll_mk0), rfl, bel.frame _, fun h => by cases h⟩

theorem over : Rows.HttpHeadsSaid :=
  OpenClaim.holds_of_cond 3 Tryz.f3 rfl rfl rfl rfl rfl rfl rfl ⟨rfl, rfl, rfl, rfl, rfl⟩ rfl rfl rfl rfl rfl (by kernel_rfl) Tryz.func3 (by kernel_rfl)
    (of_decide_eq_true (by kernel_rfl)) (by unfold Func.isWrapper; first | (rw [if_pos (by decide +kernel)]; kernel_rfl) | (rw [if_neg (by decide +kernel)]; exact ⟨rfl, rfl⟩))
    (fun os started H enc _ F => by rw [OpenClaim.pre_eq_preRow]; exact lifted os started H enc F)

end Go.Proofs.YthbjdbookiejeabGreatDoor.httpHeads
namespace Go.Proofs.YthbjdbookiejeabGreatDoor
/-- The statement: the tied card. -/
theorem httpHeads_holds : Rows.HttpHeadsCardSaid :=
  Claim7.holds_tied_plain_at .later [] _ _ _ _
    httpHeads.over (fun _ h => by cases h) (by kernel_rfl) (fun _ h => by cases h) httpHeads_row_tie rfl ⟨rfl, rfl⟩ (by kernel_rfl) rfl
    (fun f fn hf hfn => by
      obtain rfl : f = 3 := Option.some.inj ((show Tryz.prog.funcNamed "tollbar/tollbarlaw08.HttpHeads" = some 3 by kernel_rfl).symm.trans hf) |>.symm
      obtain rfl : fn = Tryz.f3 := (Option.some.inj (Tryz.func3.symm.trans hfn)).symm
      exact ⟨by kernel_rfl, fun j t ht => by
        rw [Tryz.params3] at ht
        have hm : t ∈ [22] := by simpa using Array.mem_of_getElem? ht
        have hall : ([22].all fun u => !Tryz.prog.wantsStandIn u) = true := by kernel_rfl
        exact (show Tryz.prog.wantsStandIn t = false by simpa using List.all_eq_true.1 hall t hm)⟩)
    (by kernel_rfl)
#print axioms httpHeads_holds
end Go.Proofs.YthbjdbookiejeabGreatDoor
