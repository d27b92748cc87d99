/- The code's Status and the reference's are the same, plain. -/
import Derived.Test.YthbjdbookiejeacGreatDoorLrP
namespace Go.Proofs.YthbjdbookiejeacGreatDoor
open Go.RowKit
set_option linter.unusedVariables false

def frm (q x y z : UInt8) (t : List UInt8) : ByteArray := ⟨(72 :: 84 :: 84 :: 80 :: 47 :: 49 :: 46 :: q :: 32 :: x :: y :: z :: t).toArray⟩
structure Fm (s : ByteArray) (q x y z : UInt8) (t : List UInt8) : Prop where
  eq : s = frm q x y z t
  hq : q = 48 ∨ q = 49
  hx : dgN x < 10
  hy : dgN y < 10
  hz : dgN z < 10
  ht : t = [] ∨ ∃ r, t = 32 :: r
def tailR (t : List UInt8) : ByteArray := ⟨(t.drop 1).toArray⟩
theorem ok_ite {c : Prop} [Decidable c] {b : St} (hb : b.ok = false → b = noS) : (if c then noS else b).ok = false → (if c then noS else b) = noS := by
  split
  · intro _; rfl
  · exact hb
theorem ref_no {s : ByteArray} : (refS s).ok = false → refS s = noS := by
  unfold refS
  repeat refine ok_ite ?_
  intro h
  cases h
theorem span_dg {b : UInt8} : spanP 48 57 (b.toNat : Int) = true ↔ dgN b < 10 := by
  have k := dgN_cast b
  unfold spanP
  rw [Bool.and_eq_true, decide_eq_true_iff, decide_eq_true_iff]
  unfold dgI at k
  split at k
  · omega
  · split at k
    · omega
    · split at k <;> omega
theorem dg_val {b : UInt8} (h : dgN b < 10) : ((dgN b : Nat) : Int) = (b.toNat : Int) - 48 := by
  have k := dgN_cast b
  unfold dgI at k
  split at k
  · omega
  · split at k
    · omega
    · split at k <;> omega
theorem dg_ne {b : UInt8} (h : dgN b < 10) : b ≠ 32 := by
  intro e
  subst e
  exact absurd h (by decide)

/-- What is read is of the form. -/
theorem sta_form {s : ByteArray} (h : (statP s).ok = true) : ∃ q x y z t, Fm s q x y z t := by
  unfold statP at h
  split at h
  · rename_i k
    obtain ⟨k1, k2, k3⟩ := k
    obtain ⟨hv, hm⟩ := min_ver k1
    have hvq : ∃ q, (q = 48 ∨ q = 49) ∧ (bcut s).1.data.toList = [72, 84, 84, 80, 47, 49, 46, q] := by
      rw [← hv]
      rcases hm with e | e
      · rw [e, ver0]; exact ⟨48, Or.inl rfl, rfl⟩
      · rw [e, ver1]; exact ⟨49, Or.inr rfl, rfl⟩
    obtain ⟨q, hq, ev⟩ := hvq
    have hd : ∃ x y z, dgN x < 10 ∧ dgN y < 10 ∧ dgN z < 10 ∧ (bcut (bcut s).2.1).1.data.toList = [x, y, z] := by
      generalize (bcut (bcut s).2.1).1 = d at *
      unfold codP at k2
      split at k2
      · rename_i k
        obtain ⟨kb, ks, kl, kh⟩ := k
        obtain ⟨x, y, z, rfl⟩ := three_of ks
        have hnv : numV 10 18 ⟨#[x, y, z]⟩ = vN 10 [x, y, z] := rfl
        unfold numB at kb
        rw [hnv] at kb
        have hx : dgN x < 10 := by
          by_cases c : dgN x < 10
          · exact c
          · simp [vN, stepV, c] at kb
        have hy : dgN y < 10 := by
          by_cases c : dgN y < 10
          · exact c
          · simp [vN, stepV, c, hx] at kb
        have hz : dgN z < 10 := by
          by_cases c : dgN z < 10
          · exact c
          · simp [vN, stepV, c, hx, hy] at kb
        exact ⟨x, y, z, hx, hy, hz, rfl⟩
      · cases k2
    obtain ⟨x, y, z, hx, hy, hz, ed⟩ := hd
    have j1 : s.data.toList = (bcut s).1.data.toList ++ 32 :: (bcut s).2.1.data.toList := by
      rcases idx32 s.data.toList with p | ⟨i, p, e⟩
      · exfalso
        have z0 : (bcut s).2.1 = ⟨#[]⟩ := bcut_miss p
        rw [z0] at ed
        rw [show (bcut (⟨#[]⟩ : ByteArray)).1.data.toList = [] by kernel_rfl] at ed
        cases ed
      · show s.data.toList = (Lib.cut s.data.toList [32]).1 ++ 32 :: (Lib.cut s.data.toList [32]).2.1
        unfold Lib.cut
        rw [p, if_pos (by omega)]
        exact e
    rcases idx32 (bcut s).2.1.data.toList with p | ⟨i, p, e⟩
    · have z2 : (bcut (bcut s).2.1).1.data.toList = (bcut s).2.1.data.toList := by
        show (Lib.cut (bcut s).2.1.data.toList [32]).1 = _
        unfold Lib.cut
        rw [p]
        rfl
      refine ⟨q, x, y, z, [], ba_eq ?_, hq, hx, hy, hz, Or.inl rfl⟩
      rw [j1, ev, ← z2, ed]
      rfl
    · have z2 : (bcut s).2.1.data.toList = (bcut (bcut s).2.1).1.data.toList ++ 32 :: (bcut (bcut s).2.1).2.1.data.toList := by
        show (bcut s).2.1.data.toList = (Lib.cut (bcut s).2.1.data.toList [32]).1 ++ 32 :: (Lib.cut (bcut s).2.1.data.toList [32]).2.1
        unfold Lib.cut
        rw [p, if_pos (by omega)]
        exact e
      refine ⟨q, x, y, z, 32 :: (bcut (bcut s).2.1).2.1.data.toList, ba_eq ?_, hq, hx, hy, hz, Or.inr ⟨_, rfl⟩⟩
      rw [j1, ev, z2, ed]
      rfl
  · cases h

theorem lext_data (x : ByteArray) (i j : Nat) : (x.extract i j).data.toList = (x.data.toList.take j).drop i := by
  rw [ByteArray.data_extract, Array.toList_extract, List.extract_eq_take_drop, List.drop_take]
theorem twelve_of {l : List UInt8} (h : 12 ≤ l.length) : ∃ a b c d e f g i j k m n t, l = a :: b :: c :: d :: e :: f :: g :: i :: j :: k :: m :: n :: t := by
  have h1 : (l.take 12).length = 12 := by rw [List.length_take]; omega
  have h2 := (List.take_append_drop 12 l).symm
  generalize l.take 12 = u at *
  generalize l.drop 12 = t at *
  match u, h1 with
  | [a, b, c, d, e, f, g, i, j, k, m, n], _ => exact ⟨a, b, c, d, e, f, g, i, j, k, m, n, t, h2⟩
theorem u8_of {b : UInt8} {n : Nat} (hn : n < 256) (h : (b.toNat : Int) = n) : b = UInt8.ofNat n := by
  have : b.toNat = n := by omega
  rw [← this]
  exact UInt8.ofNat_toNat.symm
theorem ref_form {s : ByteArray} (h : (refS s).ok = true) : ∃ q x y z t, Fm s q x y z t := by
  unfold refS at h
  by_cases c1 : s.size < 12
  · rw [if_pos c1] at h
    cases h
  rw [if_neg c1] at h
  by_cases c2 : ¬ at8 s 8 = 32
  · rw [if_pos c2] at h
    cases h
  rw [if_neg c2] at h
  by_cases c3 : (rverL (s.extract 0 8).data.toList).2.2 = false
  · rw [if_pos c3] at h
    cases h
  rw [if_neg c3] at h
  by_cases c4 : ¬ (rverL (s.extract 0 8).data.toList).1 = 1
  · rw [if_pos c4] at h
    cases h
  rw [if_neg c4] at h
  by_cases c5 : 1 < (rverL (s.extract 0 8).data.toList).2.1
  · rw [if_pos c5] at h
    cases h
  rw [if_neg c5] at h
  by_cases c6 : spanP 48 57 (at8 s 9) = false
  · rw [if_pos c6] at h
    cases h
  rw [if_neg c6] at h
  by_cases c7 : spanP 48 57 (at8 s 10) = false
  · rw [if_pos c7] at h
    cases h
  rw [if_neg c7] at h
  by_cases c8 : spanP 48 57 (at8 s 11) = false
  · rw [if_pos c8] at h
    cases h
  rw [if_neg c8] at h
  by_cases c9 : 12 < s.size ∧ ¬ at8 s 12 = 32
  · rw [if_pos c9] at h
    cases h
  rw [if_neg c9] at h
  clear h
  obtain ⟨a, b, c, d, e, f, g, i, j, k, m, n, t, hl⟩ := twelve_of (l := s.data.toList) (show 12 ≤ s.size by omega)
  have e8 : at8 s 8 = (j.toNat : Int) := by unfold at8; rw [hl]; rfl
  have e9 : at8 s 9 = (k.toNat : Int) := by unfold at8; rw [hl]; rfl
  have e10 : at8 s 10 = (m.toNat : Int) := by unfold at8; rw [hl]; rfl
  have e11 : at8 s 11 = (n.toNat : Int) := by unfold at8; rw [hl]; rfl
  have hv : (s.extract 0 8).data.toList = [a, b, c, d, e, f, g, i] := by rw [lext_data, hl]; rfl
  rw [e8] at c2
  rw [e9] at c6
  rw [e10] at c7
  rw [e11] at c8
  rw [hv] at c3 c4 c5
  have hj : j = 32 := u8_of (n := 32) (by decide) (by omega)
  have hk : dgN k < 10 := span_dg.1 (by simpa using c6)
  have hm : dgN m < 10 := span_dg.1 (by simpa using c7)
  have hn : dgN n < 10 := span_dg.1 (by simpa using c8)
  unfold rverL at c3 c4 c5
  simp only at c3 c4 c5
  split at c3
  · rename_i w
    rw [if_pos w] at c4 c5
    simp only at c4 c5
    obtain ⟨w1, w2, w3, w4⟩ := w
    have w5 := eq_of_beq w1
    injection w5 with x1 w5
    injection w5 with x2 w5
    injection w5 with x3 w5
    injection w5 with x4 w5
    injection w5 with x5 w5
    have hf : f = 49 := u8_of (n := 49) (by decide) (by omega)
    have hi := span_of w4
    have hq : i = 48 ∨ i = 49 := by
      by_cases z : (i.toNat : Int) = 48
      · exact Or.inl (u8_of (n := 48) (by decide) z)
      · exact Or.inr (u8_of (n := 49) (by decide) (by omega))
    have ht : t = [] ∨ ∃ r, t = 32 :: r := by
      cases t with
      | nil => exact Or.inl rfl
      | cons v r =>
        have e12 : at8 s 12 = (v.toNat : Int) := by unfold at8; rw [hl]; rfl
        have hz : 12 < s.size := by
          show 12 < s.data.toList.length
          rw [hl]
          simp
        have : v = 32 := u8_of (n := 32) (by decide) (by rw [← e12]; exact Classical.not_not.1 fun q => c9 ⟨hz, q⟩)
        exact Or.inr ⟨r, by rw [this]⟩
    refine ⟨i, k, m, n, t, ba_eq ?_, hq, hk, hm, hn, ht⟩
    rw [hl, x1, x2, x3, x4, x5, hf, w3, hj]
    rfl
  · exact absurd rfl c3
end Go.Proofs.YthbjdbookiejeacGreatDoor
