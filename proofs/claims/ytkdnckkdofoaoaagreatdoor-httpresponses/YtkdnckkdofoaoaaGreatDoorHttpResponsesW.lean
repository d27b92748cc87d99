/- Whatever the bytes, the method and whether they have ended, HttpResponses answers true: Response tells what the document tells, line by line; no condition. -/
import Derived.Test.YtkdnckkdofoaoaaGreatDoorKw
import Derived.Test.YtkdnckkdofoaoaaGreatDoorKs
import Derived.Test.YtkdnckkdofoaoaaGreatDoorKr
import Derived.Test.YtkdnckkdofoaoaaGreatDoorKi
import Derived.Test.YtkdnckkdofoaoaaGreatDoorKj
import Derived.Test.YtkdnckkdofoaoaaGreatDoorKn
import Derived.Test.YtkdnckkdofoaoaaGreatDoorKg
import Derived.Test.YtkdnckkdofoaoaaGreatDoorKd
import Derived.Test.YtkdnckkdofoaoaaGreatDoorKb
import Derived.Test.YtkdnckkdofoaoaaGreatDoorRows
import Derived.Test.YtkdnckkdofoaoaaGreatDoorCards
import Derived.Test.YtkdnckkdofoaoaaGreatDoorTie
import Derived.Test.YtkdnckkdofoaoaaGreatDoorKf
import Derived.WalkKit
import Derived.ProofKit
import Derived.OpenShut
import Derived.ShutString
import Derived.ChangeOld
import Derived.Below
import Derived.LaidMore
import Derived.Lay
import Derived.Stop.Joined
import Derived.SevenTiedAt
import Derived.Shelf.Vars
import Derived.Deep.DeepHandedRow
import Derived.Deep.DeepWitnessRowRef
/- The code's Status and the reference's are the same, plain. -/
namespace Go.Proofs.YtkdnckkdofoaoaaGreatDoor
open Go.RowKit
set_option linter.unusedVariables false

def frm (q x y z : UInt8) (t : List UInt8) : ByteArray := ⟨(72 :: 84 :: 84 :: 80 :: 47 :: 49 :: 46 :: q :: 32 :: x :: y :: z :: t).toArray⟩
structure Fm (s : ByteArray) (q x y z : UInt8) (t : List UInt8) : Prop where
  eq : s = frm q x y z t
  hq : q = 48 ∨ q = 49
  hx : dgN x < 10
  hy : dgN y < 10
  hz : dgN z < 10
  ht : t = [] ∨ ∃ r, t = 32 :: r
def tailR (t : List UInt8) : ByteArray := ⟨(t.drop 1).toArray⟩
theorem ok_ite {c : Prop} [Decidable c] {b : St} (hb : b.ok = false → b = noS) : (if c then noS else b).ok = false → (if c then noS else b) = noS := by
  split
  · intro _; rfl
  · exact hb
theorem ref_no {s : ByteArray} : (refS s).ok = false → refS s = noS := by
  unfold refS
  repeat refine ok_ite ?_
  intro h
  cases h
theorem span_dg {b : UInt8} : spanP 48 57 (b.toNat : Int) = true ↔ dgN b < 10 := by
  have k := dgN_cast b
  unfold spanP
  rw [Bool.and_eq_true, decide_eq_true_iff, decide_eq_true_iff]
  unfold dgI at k
  split at k
  · omega
  · split at k
    · omega
    · split at k <;> omega
theorem dg_val {b : UInt8} (h : dgN b < 10) : ((dgN b : Nat) : Int) = (b.toNat : Int) - 48 := by
  have k := dgN_cast b
  unfold dgI at k
  split at k
  · omega
  · split at k
    · omega
    · split at k <;> omega
theorem dg_ne {b : UInt8} (h : dgN b < 10) : b ≠ 32 := by
  intro e
  subst e
  exact absurd h (by decide)

/-- What is read is of the form. -/
theorem sta_form {s : ByteArray} (h : (statP s).ok = true) : ∃ q x y z t, Fm s q x y z t := by
  unfold statP at h
  split at h
  · rename_i k
    obtain ⟨k1, k2, k3⟩ := k
    obtain ⟨hv, hm⟩ := min_ver k1
    have hvq : ∃ q, (q = 48 ∨ q = 49) ∧ (bcut s).1.data.toList = [72, 84, 84, 80, 47, 49, 46, q] := by
      rw [← hv]
      rcases hm with e | e
      · rw [e, ver0]; exact ⟨48, Or.inl rfl, rfl⟩
      · rw [e, ver1]; exact ⟨49, Or.inr rfl, rfl⟩
    obtain ⟨q, hq, ev⟩ := hvq
    have hd : ∃ x y z, dgN x < 10 ∧ dgN y < 10 ∧ dgN z < 10 ∧ (bcut (bcut s).2.1).1.data.toList = [x, y, z] := by
      generalize (bcut (bcut s).2.1).1 = d at *
      unfold codP at k2
      split at k2
      · rename_i k
        obtain ⟨kb, ks, kl, kh⟩ := k
        obtain ⟨x, y, z, rfl⟩ := three_of ks
        have hnv : numV 10 18 ⟨#[x, y, z]⟩ = vN 10 [x, y, z] := rfl
        unfold numB at kb
        rw [hnv] at kb
        have hx : dgN x < 10 := by
          by_cases c : dgN x < 10
          · exact c
          · simp [vN, stepV, c] at kb
        have hy : dgN y < 10 := by
          by_cases c : dgN y < 10
          · exact c
          · simp [vN, stepV, c, hx] at kb
        have hz : dgN z < 10 := by
          by_cases c : dgN z < 10
          · exact c
          · simp [vN, stepV, c, hx, hy] at kb
        exact ⟨x, y, z, hx, hy, hz, rfl⟩
      · cases k2
    obtain ⟨x, y, z, hx, hy, hz, ed⟩ := hd
    have j1 : s.data.toList = (bcut s).1.data.toList ++ 32 :: (bcut s).2.1.data.toList := by
      rcases idx32 s.data.toList with p | ⟨i, p, e⟩
      · exfalso
        have z0 : (bcut s).2.1 = ⟨#[]⟩ := bcut_miss p
        rw [z0] at ed
        rw [show (bcut (⟨#[]⟩ : ByteArray)).1.data.toList = [] by kernel_rfl] at ed
        cases ed
      · show s.data.toList = (Lib.cut s.data.toList [32]).1 ++ 32 :: (Lib.cut s.data.toList [32]).2.1
        unfold Lib.cut
        rw [p, if_pos (by omega)]
        exact e
    rcases idx32 (bcut s).2.1.data.toList with p | ⟨i, p, e⟩
    · have z2 : (bcut (bcut s).2.1).1.data.toList = (bcut s).2.1.data.toList := by
        show (Lib.cut (bcut s).2.1.data.toList [32]).1 = _
        unfold Lib.cut
        rw [p]
        rfl
      refine ⟨q, x, y, z, [], ba_eq ?_, hq, hx, hy, hz, Or.inl rfl⟩
      rw [j1, ev, ← z2, ed]
      rfl
    · have z2 : (bcut s).2.1.data.toList = (bcut (bcut s).2.1).1.data.toList ++ 32 :: (bcut (bcut s).2.1).2.1.data.toList := by
        show (bcut s).2.1.data.toList = (Lib.cut (bcut s).2.1.data.toList [32]).1 ++ 32 :: (Lib.cut (bcut s).2.1.data.toList [32]).2.1
        unfold Lib.cut
        rw [p, if_pos (by omega)]
        exact e
      refine ⟨q, x, y, z, 32 :: (bcut (bcut s).2.1).2.1.data.toList, ba_eq ?_, hq, hx, hy, hz, Or.inr ⟨_, rfl⟩⟩
      rw [j1, ev, z2, ed]
      rfl
  · cases h

theorem lext_dataR (x : ByteArray) (i j : Nat) : (x.extract i j).data.toList = (x.data.toList.take j).drop i := by
  rw [ByteArray.data_extract, Array.toList_extract, List.extract_eq_take_drop, List.drop_take]
theorem twelve_of {l : List UInt8} (h : 12 ≤ l.length) : ∃ a b c d e f g i j k m n t, l = a :: b :: c :: d :: e :: f :: g :: i :: j :: k :: m :: n :: t := by
  have h1 : (l.take 12).length = 12 := by rw [List.length_take]; omega
  have h2 := (List.take_append_drop 12 l).symm
  generalize l.take 12 = u at *
  generalize l.drop 12 = t at *
  match u, h1 with
  | [a, b, c, d, e, f, g, i, j, k, m, n], _ => exact ⟨a, b, c, d, e, f, g, i, j, k, m, n, t, h2⟩
theorem u8_of {b : UInt8} {n : Nat} (hn : n < 256) (h : (b.toNat : Int) = n) : b = UInt8.ofNat n := by
  have : b.toNat = n := by omega
  rw [← this]
  exact UInt8.ofNat_toNat.symm
theorem ref_form {s : ByteArray} (h : (refS s).ok = true) : ∃ q x y z t, Fm s q x y z t := by
  unfold refS at h
  by_cases c1 : s.size < 12
  · rw [if_pos c1] at h
    cases h
  rw [if_neg c1] at h
  by_cases c2 : ¬ at8 s 8 = 32
  · rw [if_pos c2] at h
    cases h
  rw [if_neg c2] at h
  by_cases c3 : (rverL (s.extract 0 8).data.toList).2.2 = false
  · rw [if_pos c3] at h
    cases h
  rw [if_neg c3] at h
  by_cases c4 : ¬ (rverL (s.extract 0 8).data.toList).1 = 1
  · rw [if_pos c4] at h
    cases h
  rw [if_neg c4] at h
  by_cases c5 : 1 < (rverL (s.extract 0 8).data.toList).2.1
  · rw [if_pos c5] at h
    cases h
  rw [if_neg c5] at h
  by_cases c6 : spanP 48 57 (at8 s 9) = false
  · rw [if_pos c6] at h
    cases h
  rw [if_neg c6] at h
  by_cases c7 : spanP 48 57 (at8 s 10) = false
  · rw [if_pos c7] at h
    cases h
  rw [if_neg c7] at h
  by_cases c8 : spanP 48 57 (at8 s 11) = false
  · rw [if_pos c8] at h
    cases h
  rw [if_neg c8] at h
  by_cases c9 : 12 < s.size ∧ ¬ at8 s 12 = 32
  · rw [if_pos c9] at h
    cases h
  rw [if_neg c9] at h
  clear h
  obtain ⟨a, b, c, d, e, f, g, i, j, k, m, n, t, hl⟩ := twelve_of (l := s.data.toList) (show 12 ≤ s.size by omega)
  have e8 : at8 s 8 = (j.toNat : Int) := by unfold at8; rw [hl]; rfl
  have e9 : at8 s 9 = (k.toNat : Int) := by unfold at8; rw [hl]; rfl
  have e10 : at8 s 10 = (m.toNat : Int) := by unfold at8; rw [hl]; rfl
  have e11 : at8 s 11 = (n.toNat : Int) := by unfold at8; rw [hl]; rfl
  have hv : (s.extract 0 8).data.toList = [a, b, c, d, e, f, g, i] := by rw [lext_dataR, hl]; rfl
  rw [e8] at c2
  rw [e9] at c6
  rw [e10] at c7
  rw [e11] at c8
  rw [hv] at c3 c4 c5
  have hj : j = 32 := u8_of (n := 32) (by decide) (by omega)
  have hk : dgN k < 10 := span_dg.1 (by simpa using c6)
  have hm : dgN m < 10 := span_dg.1 (by simpa using c7)
  have hn : dgN n < 10 := span_dg.1 (by simpa using c8)
  unfold rverL at c3 c4 c5
  simp only at c3 c4 c5
  split at c3
  · rename_i w
    rw [if_pos w] at c4 c5
    simp only at c4 c5
    obtain ⟨w1, w2, w3, w4⟩ := w
    have w5 := eq_of_beq w1
    injection w5 with x1 w5
    injection w5 with x2 w5
    injection w5 with x3 w5
    injection w5 with x4 w5
    injection w5 with x5 w5
    have hf : f = 49 := u8_of (n := 49) (by decide) (by omega)
    have hi := span_of w4
    have hq : i = 48 ∨ i = 49 := by
      by_cases z : (i.toNat : Int) = 48
      · exact Or.inl (u8_of (n := 48) (by decide) z)
      · exact Or.inr (u8_of (n := 49) (by decide) (by omega))
    have ht : t = [] ∨ ∃ r, t = 32 :: r := by
      cases t with
      | nil => exact Or.inl rfl
      | cons v r =>
        have e12 : at8 s 12 = (v.toNat : Int) := by unfold at8; rw [hl]; rfl
        have hz : 12 < s.size := by
          show 12 < s.data.toList.length
          rw [hl]
          simp
        have : v = 32 := u8_of (n := 32) (by decide) (by rw [← e12]; exact Classical.not_not.1 fun q => c9 ⟨hz, q⟩)
        exact Or.inr ⟨r, by rw [this]⟩
    refine ⟨i, k, m, n, t, ba_eq ?_, hq, hk, hm, hn, ht⟩
    rw [hl, x1, x2, x3, x4, x5, hf, w3, hj]
    rfl
  · exact absurd rfl c3
end Go.Proofs.YtkdnckkdofoaoaaGreatDoor

/- The code's Status and the reference's are the same. -/
namespace Go.Proofs.YtkdnckkdofoaoaaGreatDoor
open Go.RowKit
set_option linter.unusedVariables false

theorem ix_hit (l : List UInt8) : Lib.index (32 :: l) [32] = ((0 : Nat) : Int) := by simp [Lib.index, List.isPrefixOf]
theorem ix_ne {b : UInt8} {l : List UInt8} {k : Nat} (h : b ≠ 32) (hk : Lib.index l [32] = (k : Int)) : Lib.index (b :: l) [32] = ((k + 1 : Nat) : Int) := by
  have hp : ([32] : List UInt8).isPrefixOf (b :: l) = false := by simp [List.isPrefixOf, Ne.symm h]
  rw [Lib.index, hp, hk, if_neg (by decide), if_neg (by simp)]
  omega
theorem ix_no {b : UInt8} {l : List UInt8} (h : b ≠ 32) (hk : Lib.index l [32] = -1) : Lib.index (b :: l) [32] = -1 := by
  have hp : ([32] : List UInt8).isPrefixOf (b :: l) = false := by simp [List.isPrefixOf, Ne.symm h]
  rw [Lib.index, hp, hk]
  simp
theorem ix_nil : Lib.index ([] : List UInt8) [32] = -1 := by simp [Lib.index]
theorem lcut_hit {l : List UInt8} {k : Nat} (h : Lib.index l [32] = (k : Int)) : Lib.cut l [32] = (l.take k, l.drop (k + 1), true) := by
  unfold Lib.cut
  rw [h, if_pos (by omega)]
  rfl
theorem cut_no {l : List UInt8} (h : Lib.index l [32] = -1) : Lib.cut l [32] = (l, [], false) := by
  unfold Lib.cut
  rw [h]
  rfl
def cod3 (x y z : UInt8) : Int := 100 * ((x.toNat : Int) - 48) + 10 * ((y.toNat : Int) - 48) + ((z.toNat : Int) - 48)
def stC (q x y z : UInt8) (t : List UInt8) : St := if 100 ≤ cod3 x y z ∧ cod3 x y z ≤ 599 ∧ rsnP (tailR t) = true then ⟨cod3 x y z, tailR t, (q.toNat : Int) - 48, true⟩ else noS
theorem cod_calc {x y z : UInt8} (hx : dgN x < 10) (hy : dgN y < 10) (hz : dgN z < 10) : codP ⟨#[x, y, z]⟩ = if 100 ≤ cod3 x y z ∧ cod3 x y z ≤ 599 then (cod3 x y z, true) else (0, false) := by
  have hv : vN 10 [x, y, z] = some ((dgN x * 10 + dgN y) * 10 + dgN z) := by simp [vN, stepV, hx, hy, hz]
  have hnv : numV 10 18 ⟨#[x, y, z]⟩ = vN 10 [x, y, z] := rfl
  have hb : numB 10 18 ⟨#[x, y, z]⟩ = true := by unfold numB; rw [hnv, hv]; rfl
  have hi : numI 10 18 ⟨#[x, y, z]⟩ = cod3 x y z := by
    unfold numI cod3
    rw [hnv, hv, Option.getD_some, ← dg_val hx, ← dg_val hy, ← dg_val hz]
    omega
  unfold codP
  rw [hb, hi]
  have e : (true = true ∧ (⟨#[x, y, z]⟩ : ByteArray).size = 3 ∧ 100 ≤ cod3 x y z ∧ cod3 x y z ≤ 599) ↔ (100 ≤ cod3 x y z ∧ cod3 x y z ≤ 599) := ⟨fun k => k.2.2, fun k => ⟨rfl, rfl, k⟩⟩
  by_cases c : 100 ≤ cod3 x y z ∧ cod3 x y z ≤ 599
  · rw [if_pos (e.2 c), if_pos c]
  · rw [if_neg (fun k => c (e.1 k)), if_neg c]
theorem min_calc {q : UInt8} (h : q = 48 ∨ q = 49) : minP ⟨#[72, 84, 84, 80, 47, 49, 46, q]⟩ = ((q.toNat : Int) - 48, true) := by
  rcases h with e | e
  · subst e; kernel_rfl
  · subst e; kernel_rfl
theorem sta_calc {s : ByteArray} {q x y z : UInt8} {t : List UInt8} (F : Fm s q x y z t) : statP s = stC q x y z t := by
  have hq : q ≠ 32 := by rcases F.hq with e | e <;> subst e <;> decide
  have nx := dg_ne F.hx
  have ny := dg_ne F.hy
  have nz := dg_ne F.hz
  have hl : s.data.toList = 72 :: 84 :: 84 :: 80 :: 47 :: 49 :: 46 :: q :: 32 :: x :: y :: z :: t := by rw [F.eq]; rfl
  have i1 : Lib.index s.data.toList [32] = ((8 : Nat) : Int) := by
    rw [hl]
    exact ix_ne (by decide) (ix_ne (by decide) (ix_ne (by decide) (ix_ne (by decide) (ix_ne (by decide) (ix_ne (by decide) (ix_ne (by decide) (ix_ne hq (ix_hit _))))))))
  have b1 : bcut s = (⟨#[72, 84, 84, 80, 47, 49, 46, q]⟩, ⟨(x :: y :: z :: t).toArray⟩, true) := by
    unfold bcut
    rw [lcut_hit i1, hl]
    rfl
  have b2 : (bcut ⟨(x :: y :: z :: t).toArray⟩).1 = ⟨#[x, y, z]⟩ ∧ (bcut ⟨(x :: y :: z :: t).toArray⟩).2.1 = tailR t := by
    rcases F.ht with e | ⟨r, e⟩
    · subst e
      have i2 : Lib.index [x, y, z] [32] = -1 := ix_no nx (ix_no ny (ix_no nz ix_nil))
      unfold bcut
      show (⟨(Lib.cut [x, y, z] [32]).1.toArray⟩ : ByteArray) = _ ∧ (⟨(Lib.cut [x, y, z] [32]).2.1.toArray⟩ : ByteArray) = _
      rw [cut_no i2]
      exact ⟨rfl, rfl⟩
    · subst e
      have i2 : Lib.index (x :: y :: z :: 32 :: r) [32] = ((3 : Nat) : Int) := ix_ne nx (ix_ne ny (ix_ne nz (ix_hit _)))
      unfold bcut
      show (⟨(Lib.cut (x :: y :: z :: 32 :: r) [32]).1.toArray⟩ : ByteArray) = _ ∧ (⟨(Lib.cut (x :: y :: z :: 32 :: r) [32]).2.1.toArray⟩ : ByteArray) = _
      rw [lcut_hit i2]
      exact ⟨rfl, rfl⟩
  unfold statP
  rw [b1]
  simp only
  rw [b2.1, b2.2, min_calc F.hq, cod_calc F.hx F.hy F.hz]
  unfold stC noS
  by_cases c : 100 ≤ cod3 x y z ∧ cod3 x y z ≤ 599
  · rw [if_pos c]
    simp only
    by_cases r : rsnP (tailR t) = true
    · rw [if_pos ⟨trivial, trivial, r⟩, if_pos ⟨c.1, c.2, r⟩]
    · rw [if_neg (fun k => r k.2.2), if_neg (fun k => r k.2.2)]
  · rw [if_neg c, if_neg (fun k => by cases k.2.1), if_neg (fun k => c ⟨k.1, k.2.1⟩)]
theorem ref_calc {s : ByteArray} {q x y z : UInt8} {t : List UInt8} (F : Fm s q x y z t) : refS s = stC q x y z t := by
  have hl : s.data.toList = 72 :: 84 :: 84 :: 80 :: 47 :: 49 :: 46 :: q :: 32 :: x :: y :: z :: t := by rw [F.eq]; rfl
  have hsz : s.size = 12 + t.length := by
    show s.data.toList.length = _
    rw [hl]
    simp
    omega
  have e8 : at8 s 8 = 32 := by unfold at8; rw [hl]; rfl
  have e9 : at8 s 9 = (x.toNat : Int) := by unfold at8; rw [hl]; rfl
  have e10 : at8 s 10 = (y.toNat : Int) := by unfold at8; rw [hl]; rfl
  have e11 : at8 s 11 = (z.toNat : Int) := by unfold at8; rw [hl]; rfl
  have hv : rverL (s.extract 0 8).data.toList = (1, (q.toNat : Int) - 48, true) := by
    rw [lext_dataR, hl]
    show rverL [72, 84, 84, 80, 47, 49, 46, q] = _
    rcases F.hq with e | e <;> subst e <;> kernel_rfl
  have hqm : ¬ 1 < (q.toNat : Int) - 48 := by rcases F.hq with e | e <;> subst e <;> decide
  have er : rsn s = tailR t := by
    unfold rsn tailR
    rcases F.ht with e | ⟨r, e⟩
    · subst e
      rw [if_neg (by simp at hsz; omega)]
      rfl
    · subst e
      rw [if_pos (by simp at hsz; omega)]
      refine ba_eq ?_
      rw [lext_dataR, List.take_of_length_le (show s.data.toList.length ≤ s.size from Nat.le_refl _), hl]
      rfl
  have e12 : ¬ (12 < s.size ∧ ¬ at8 s 12 = 32) := by
    rcases F.ht with e | ⟨r, e⟩
    · subst e
      simp at hsz
      omega
    · subst e
      have : at8 s 12 = 32 := by unfold at8; rw [hl]; rfl
      exact fun k => k.2 this
  have ec : codeR s = cod3 x y z := by unfold codeR cod3; rw [e9, e10, e11]
  unfold refS
  rw [if_neg (by omega), if_neg (fun k => k e8), hv]
  simp only
  rw [if_neg (by decide), if_neg (fun k => k trivial), if_neg hqm, e9, e10, e11, span_dg.2 F.hx, span_dg.2 F.hy, span_dg.2 F.hz, if_neg (by decide), if_neg (by decide), if_neg (by decide), if_neg e12, ec, er]
  unfold stC
  by_cases c1 : cod3 x y z < 100
  · rw [if_pos c1, if_neg (fun k => by omega)]
  · rw [if_neg c1]
    by_cases c2 : 599 < cod3 x y z
    · rw [if_pos c2, if_neg (fun k => by omega)]
    · rw [if_neg c2]
      unfold rsnP
      cases hv : allB valP (tailR t).data.toList
      · rw [if_pos rfl, if_neg (fun k => by simp at k)]
      · rw [if_neg (by decide)]
        by_cases c3 : 100 < (tailR t).size
        · rw [if_pos c3, if_neg (fun k => by have := k.2.2; simp at this; omega)]
        · rw [if_neg c3, if_pos ⟨by omega, by omega, by simp; omega⟩]
theorem sta_ref (s : ByteArray) : statP s = refS s := by
  cases h1 : (statP s).ok
  · cases h2 : (refS s).ok
    · rw [ref_no h2]
      unfold statP at h1 ⊢
      split at h1
      · cases h1
      · rename_i k
        rw [if_neg k]
        rfl
    · obtain ⟨q, x, y, z, t, F⟩ := ref_form h2
      rw [sta_calc F, ref_calc F]
  · obtain ⟨q, x, y, z, t, F⟩ := sta_form h1
    rw [sta_calc F, ref_calc F]
end Go.Proofs.YtkdnckkdofoaoaaGreatDoor

/- The reference's Response. -/
namespace Go.Proofs.YtkdnckkdofoaoaaGreatDoor
open Go.ChangeShapes Go.WideShapes Go.ChangeAt Go.RowKit
set_option linter.unusedVariables false

/-- The end of a response, of its kind and size. -/
def endK (s : St) (F : Fs) (b : List UInt8) (n : Nat) (K : Int × Nat × Bool) (ended : Bool) : Rp :=
  if K.2.2 = false then rpNo false
  else if K.1 = 3 then (if b.length - n ≤ 4096 then (if ended = true then ⟨s.code, s.reason, s.minor, F, b.drop n, b.length, true⟩ else rpNo true) else rpNo false)
  else if (rbodyP (b.drop n) K.2.1 (decide (K.1 = 2))).2.2.1 = true then ⟨s.code, s.reason, s.minor, F, (rbodyP (b.drop n) K.2.1 (decide (K.1 = 2))).1, n + (rbodyP (b.drop n) K.2.1 (decide (K.1 = 2))).2.1, true⟩
  else rpNo (decide ((rbodyP (b.drop n) K.2.1 (decide (K.1 = 2))).2.2.2 = 0) && !ended)
/-- A response whose first line says s. -/
def respK (s : St) (F : Fs × Int) (n : Nat) (code : Int) (b : List UInt8) (method : ByteArray) (ended : Bool) : Rp :=
  if s.ok = false then rpNo false
  else if F.2 = 0 then (if n = 0 then rpNo (decide (code = 0) && !ended) else endK s F.1 b n ((respF method s.code s.minor F.1).1, (respF method s.code s.minor F.1).2.1.toNat, (respF method s.code s.minor F.1).2.2) ended)
  else rpNo false
def respL (x : List ByteArray × Nat × Int) (b : List UInt8) (method : ByteArray) (ended : Bool) : Rp := match x.1 with
  | [] => rpNo (decide (x.2.2 = 0) && !ended)
  | s :: ss => respK (statP s) (fldsP ss 40) x.2.1 x.2.2 b method ended
theorem respF_three (m : ByteArray) (code minor : Int) (fs : Fs) (h : (respF m code minor fs).1 = 3) : (respF m code minor fs).2.2 = true := by
  unfold respF at h ⊢
  split at h
  · cases h
  · rename_i k
    rw [if_neg k]
    simp only at h ⊢
    unfold toldF at h ⊢
    split at h
    · cases h
    · rename_i k1
      rw [if_neg k1]
      split at h
      · split at h <;> cases h
      · rename_i k2
        rw [if_neg k2]
        split at h
        · rename_i k3
          rw [if_pos k3]; rfl
        · split at h
          · cases h
          · split at h <;> cases h
theorem end_ref (s : St) (F : Fs) (b : List UInt8) (n : Nat) (K : Int × Int × Bool) (ended : Bool) (hn : ¬ n = 0) (hl : n ≤ b.length) (h0 : 0 ≤ K.2.1) (h3 : K.1 = 3 → K.2.2 = true) : respOf (rbodyQ s F b n K ended) ended = endK s F b n (K.1, K.2.1.toNat, K.2.2) ended := by
  obtain ⟨K1, K2, K3⟩ := K
  simp only at h0 h3
  obtain ⟨sz, rfl⟩ : ∃ sz : Nat, K2 = (sz : Int) := ⟨K2.toNat, by omega⟩
  unfold rbodyQ endK
  simp only [Int.toNat_natCast]
  by_cases k3 : K1 = 3
  · have hK := h3 k3
    subst k3 hK
    simp only [Bool.true_eq_false, if_false, eq_self, if_true]
    by_cases hle : b.length - n ≤ 4096
    · rw [if_pos (show ((b.length - n : Nat) : Int) ≤ 4096 by omega), if_pos hle]
      cases ended
      · rfl
      · unfold respOf
        simp only [if_true]
        rw [if_neg (show ¬ b.length = 0 by omega)]
    · rw [if_neg (show ¬ ((b.length - n : Nat) : Int) ≤ 4096 by omega), if_neg hle]
      rfl
  · simp only [if_neg k3]
    cases K3
    · simp only [if_true]; rfl
    · simp only [Bool.true_eq_false, if_false]
      rw [body_ref b n sz _ (by omega) hl]
      cases hY : (rbodyP (b.drop n) sz (decide (K1 = 2))).2.2.1
      · simp only [Bool.false_eq_true, if_false]
        unfold respOf
        simp only [if_true]
      · simp only [if_true]
        unfold respOf
        simp only
        rw [if_neg (by omega)]
theorem respQ_open (b : List UInt8) (method : ByteArray) (ended : Bool) : respQ b method ended = respL (rlines b) b method ended := by
  obtain ⟨h1, h2⟩ := head_lines stSt b
  have hok := headL_ok stSt b
  unfold respQ rresQ
  rw [h1] at hok ⊢
  have hle := hok.le
  generalize rlines b = X at *
  obtain ⟨ss, n, code⟩ := X
  cases ss with
  | nil => rfl
  | cons s ss =>
    have e1 := h2 s ss rfl
    rw [e1]
    have e2 : sayP stSt (s :: ss, n, code) = if stSt s = 0 then saidP (fldsP ss 40) n code else ([], 0, stSt s) := rfl
    have e3 : respL (s :: ss, n, code) b method ended = respK (statP s) (fldsP ss 40) n code b method ended := rfl
    rw [e2] at hle ⊢
    rw [e3]
    generalize fldsP ss 40 = F at *
    obtain ⟨F1, F2⟩ := F
    unfold respK
    cases ho : (statP s).ok
    · have es : stSt s = 400 := by unfold stSt; rw [ho]; rfl
      rw [es, if_pos rfl]
      rfl
    · have es : stSt s = 0 := by unfold stSt; rw [ho]; rfl
      simp only [es, eq_self, if_true] at hle ⊢
      simp only [Bool.true_eq_false, if_false]
      unfold saidP at hle ⊢
      by_cases q1 : F2 = 0
      · simp only [if_pos q1] at hle ⊢
        by_cases q2 : n = 0
        · simp only [if_pos q2, if_true]
          rfl
        · simp only [if_neg q2] at hle ⊢
          exact end_ref _ _ _ _ _ _ q2 (by omega) (respF_nn _ _ _ _) (respF_three _ _ _ _)
      · simp only [if_neg q1, if_true]
        rw [decide_eq_false q1]
        rfl

set_option maxRecDepth 100000 in
set_option maxHeartbeats 16000000 in
theorem r8resp_any (b : List UInt8) (method : ByteArray) (ended : Bool) (kb c : Nat) (a : Option Addr) (w : World) (hs : Src w kb (.slice a b.length c) b) (hk : 0 < b.length → kb < w.heap.size) (hlen : b.length ≤ 1000000) :
    Calls Tryz.prog 19 #[.slice a b.length c, .string method, .bool ended] w (RespR w (respQ b method ended)) := by
  have U0 : Below w.heap.size w (w.alloc (.cells #[.int .i64 0, .string ⟨#[]⟩, .int .i64 0, .slice none 0 0, .slice none 0 0] 33)) := (Below.refl _ _).alloc (Nat.le_refl _) _
  have e1 : (w.alloc (.cells #[.int .i64 0, .string ⟨#[]⟩, .int .i64 0, .slice none 0 0, .slice none 0 0] 33)).heap.size = w.heap.size + 1 := by simp
  have HLN : Hid (Calls Tryz.prog 46 #[.slice a b.length c] (w.alloc (.cells #[.int .i64 0, .string ⟨#[]⟩, .int .i64 0, .slice none 0 0, .slice none 0 0] 33)) fun e w' => ∃ ao cv, e = .returned (.tuple #[.slice ao (rlines b).1.length cv, .int .i64 ((rlines b).2.1 : Nat), .int .i64 (rlines b).2.2]) ∧ OwnT (w.heap.size + 1) w' (.slice ao (rlines b).1.length cv) (rlines b).1 ∧ Below w.heap.size w w' ∧ w'.heap[w.heap.size]? = some (.cells #[.int .i64 0, .string ⟨#[]⟩, .int .i64 0, .slice none 0 0, .slice none 0 0] 33) ∧ w.heap.size + 1 ≤ w'.heap.size) := by
    refine (rlines_any b kb c a _ (hs.keep hk U0) (fun q => Nat.lt_of_lt_of_le (hk q) U0.size)).mono ?_
    rintro e w' ⟨ao, cv, he, hO, hB⟩
    rw [e1] at hO
    have hsz := hB.size
    rw [e1] at hsz
    exact ⟨ao, cv, he, hO, U0.trans (hB.mono (by simp)), tblk_below (tblk_new _ _) hB, hsz⟩
  have HQ : Hid (respQ b method ended = respL (rlines b) b method ended) := respQ_open b method ended
  have HSZ : Hid (∀ s ∈ (rlines b).1, s.size ≤ 2048) := (lnL_sizes _ _ _ _ (by rw [List.length_take]; omega)).1
  have hnle : (rlines b).2.1 ≤ b.length := by
    refine Nat.le_trans (lnL_sizes (fullB b) 2050 false (b.take 2048) (by rw [List.length_take]; omega)).2.2 ?_
    rw [List.length_take]; omega
  have HL := hs.len
  have hc2 : b.length ≤ c := HL.2.1
  have hc3 : c ≤ maxLen := HL.2.2
  unfold maxLen at hc3
  have HCE : Hid (∀ (W : World) (n : Nat) (a' : Option Addr), Below w.heap.size w W → n ≤ b.length → (n < c → a' = a.map (fun x => x.add n)) → Src W kb (.slice a' (b.length - n) (c - n)) (b.drop n)) := fun W n a' hB hn ha => (hs.keep hk hB).cut (m := n) hn ha
  have HBQ : Hid (∀ (W : World) (v : Value) (n sz : Nat) (cd : Bool), Below w.heap.size w W → sz ≤ 4096 → Src W kb v (b.drop n) → Calls Tryz.prog 33 #[v, .int .i64 (sz : Nat), .bool cd] W (BodyR W (rbodyP (b.drop n) sz cd))) := fun W v n sz cd hB hz S1 => by
    have hl : (b.drop n).length = b.length - n := List.length_drop
    obtain ⟨a1, c1, rfl, _⟩ := id S1
    exact rbody_any _ kb _ _ sz _ W S1 (fun q => Nat.lt_of_lt_of_le (hk (by omega)) hB.size) (by omega) hz
  have HJQ : Hid (∀ (W : World) (v : Value) (n : Nat), Below w.heap.size w W → Src W kb v (b.drop n) → Calls Tryz.prog 50 #[v, .slice (some ⟨W.heap.size, 0, none⟩) 0 0] (W.alloc (.cells #[] 5)) fun e w' => ∃ v', e = .returned v' ∧ Own W.heap.size w' v' (b.drop n) ∧ Below W.heap.size W w') := fun W v n hB S1 => by
    have C0 : Below W.heap.size W (W.alloc (.cells #[] 5)) := (Below.refl _ _).alloc (Nat.le_refl _) _
    have hl : (b.drop n).length = b.length - n := List.length_drop
    have hkb : 0 < (b.drop n).length → kb < W.heap.size := fun q => Nat.lt_of_lt_of_le (hk (by omega)) hB.size
    refine (join_any (b.drop n) [] kb W.heap.size v _ _ (S1.keep hkb C0) (fun h => Nat.lt_of_lt_of_le (hkb h) C0.size) (src_nil _ _ _) (fun h => absurd h (Nat.lt_irrefl _)) (by rw [hl]; simp; omega)).mono ?_
    rintro e w' ⟨v', he, hO, hB⟩
    rw [List.append_nil] at hO
    exact ⟨v', he, hO.mono C0.size, C0.trans (hB.mono C0.size)⟩
  have HYB : Hid (∀ (n sz : Nat) (cd : Bool), (rbodyP (b.drop n) sz cd).2.1 ≤ b.length) := fun n sz cd => by
    have k : (rbodyP (b.drop n) sz cd).2.1 ≤ (b.drop n).length := by
      unfold rbodyP
      cases cd
      · simp only [Bool.false_eq_true, if_false]
        split
        · exact Nat.zero_le _
        · simp only; omega
      · simp only [if_true]
        exact decR_le _ _
    rw [List.length_drop] at k
    omega
  clear hs hk U0 e1 HL
  generalize respQ b method ended = Q at *
  generalize rlines b = X at *
  obtain ⟨ss, n, code⟩ := X
  simp only at HLN HSZ hnle
  have HBL : Hid (∀ n, (b.drop n).length = b.length - n) := fun n => List.length_drop
  cases ss with
  | nil =>
    have HE0 : Hid (Q = rpNo (decide (code = 0) && !ended)) := HQ.out
    have hl0 : ([] : List ByteArray).length = 0 := rfl
    rw [hl0] at HLN
    clear HQ HSZ hl0 HCE HBQ HJQ HYB HBL
    generalize b.length = bl at *
    go_enter Tryz.func19, Tryz.ntmps19
    go_wp2_with fail
    refine HLN.out.mono ?_
    rintro e w1 ⟨ao, cv, rfl, O1, D1, hg1, hs1⟩
    clear HLN O1 hs1
    by_cases hX : code = 0
    · subst hX
      cases ended
      · have HE : Hid (Q = rpNo true) := HE0.out
        clear HE0
        have HBZ : Hid _ := five_below (.int .i64 0) (.string ⟨#[]⟩) (.int .i64 0) (.slice none 0 0) (.slice none 0 0) D1 (Nat.le_refl _)
        unfold five at HBZ
        have HW := five_cells hg1 (.int .i64 0) (.string ⟨#[]⟩) (.int .i64 0) (.slice none 0 0) (.slice none 0 0)
        have a0 := tblk_cell (i := 0) hg1 rfl
        have z0 := lblk_z (i := 0) hg1
        have a1 := tblk_cell (i := 1) hg1 rfl
        have z1 := lblk_z (i := 1) hg1
        have a2 := tblk_cell (i := 2) hg1 rfl
        have z2 := lblk_z (i := 2) hg1
        have a3 := tblk_cell (i := 3) hg1 rfl
        have z3 := lblk_z (i := 3) hg1
        have a4 := tblk_cell (i := 4) hg1 rfl
        have z4 := lblk_z (i := 4) hg1
        have r0 := tblk_cell (i := 0) HW rfl
        have r1 := tblk_cell (i := 1) HW rfl
        have r2 := tblk_cell (i := 2) HW rfl
        have r3 := tblk_cell (i := 3) HW rfl
        have r4 := tblk_cell (i := 4) HW rfl
        unfold five at r0 r1 r2 r3 r4
        clear HW hg1
        clear D1
        go_wp2
        refine bodyPost_ret (v := .tuple #[.agg #[.int .i64 0, .string ⟨#[]⟩, .int .i64 0, .slice none 0 0, .slice none 0 0], .int .i64 0, .bool true]) (by simp [results, Tryz.results19, go_sem, r0, r1, r2, r3, r4]) rfl ?_
        rw [HE.out]
        exact rpNo_ok HBZ.out
      · have HE : Hid (Q = rpNo false) := HE0.out
        clear HE0
        have HBZ : Hid _ := five_below (.int .i64 0) (.string ⟨#[]⟩) (.int .i64 0) (.slice none 0 0) (.slice none 0 0) D1 (Nat.le_refl _)
        unfold five at HBZ
        have HW := five_cells hg1 (.int .i64 0) (.string ⟨#[]⟩) (.int .i64 0) (.slice none 0 0) (.slice none 0 0)
        have a0 := tblk_cell (i := 0) hg1 rfl
        have z0 := lblk_z (i := 0) hg1
        have a1 := tblk_cell (i := 1) hg1 rfl
        have z1 := lblk_z (i := 1) hg1
        have a2 := tblk_cell (i := 2) hg1 rfl
        have z2 := lblk_z (i := 2) hg1
        have a3 := tblk_cell (i := 3) hg1 rfl
        have z3 := lblk_z (i := 3) hg1
        have a4 := tblk_cell (i := 4) hg1 rfl
        have z4 := lblk_z (i := 4) hg1
        have r0 := tblk_cell (i := 0) HW rfl
        have r1 := tblk_cell (i := 1) HW rfl
        have r2 := tblk_cell (i := 2) HW rfl
        have r3 := tblk_cell (i := 3) HW rfl
        have r4 := tblk_cell (i := 4) HW rfl
        unfold five at r0 r1 r2 r3 r4
        clear HW hg1
        clear D1
        go_wp2
        refine bodyPost_ret (v := .tuple #[.agg #[.int .i64 0, .string ⟨#[]⟩, .int .i64 0, .slice none 0 0, .slice none 0 0], .int .i64 0, .bool false]) (by simp [results, Tryz.results19, go_sem, r0, r1, r2, r3, r4]) rfl ?_
        rw [HE.out]
        exact rpNo_ok HBZ.out
    · have hXb : (code == 0) = false := by simpa using hX
      have HE : Hid (Q = rpNo false) := by rw [Hid, HE0.out, decide_eq_false hX]; rfl
      clear HE0
      have HBZ : Hid _ := five_below (.int .i64 0) (.string ⟨#[]⟩) (.int .i64 0) (.slice none 0 0) (.slice none 0 0) D1 (Nat.le_refl _)
      unfold five at HBZ
      have HW := five_cells hg1 (.int .i64 0) (.string ⟨#[]⟩) (.int .i64 0) (.slice none 0 0) (.slice none 0 0)
      have a0 := tblk_cell (i := 0) hg1 rfl
      have z0 := lblk_z (i := 0) hg1
      have a1 := tblk_cell (i := 1) hg1 rfl
      have z1 := lblk_z (i := 1) hg1
      have a2 := tblk_cell (i := 2) hg1 rfl
      have z2 := lblk_z (i := 2) hg1
      have a3 := tblk_cell (i := 3) hg1 rfl
      have z3 := lblk_z (i := 3) hg1
      have a4 := tblk_cell (i := 4) hg1 rfl
      have z4 := lblk_z (i := 4) hg1
      have r0 := tblk_cell (i := 0) HW rfl
      have r1 := tblk_cell (i := 1) HW rfl
      have r2 := tblk_cell (i := 2) HW rfl
      have r3 := tblk_cell (i := 3) HW rfl
      have r4 := tblk_cell (i := 4) HW rfl
      unfold five at r0 r1 r2 r3 r4
      clear HW hg1
      clear D1
      go_wp2
      refine bodyPost_ret (v := .tuple #[.agg #[.int .i64 0, .string ⟨#[]⟩, .int .i64 0, .slice none 0 0, .slice none 0 0], .int .i64 0, .bool false]) (by simp [results, Tryz.results19, go_sem, r0, r1, r2, r3, r4]) rfl ?_
      rw [HE.out]
      exact rpNo_ok HBZ.out
  | cons s ss =>
    have hq0 : respL (s :: ss, n, code) b method ended = respK (statP s) (fldsP ss 40) n code b method ended := rfl
    rw [hq0] at HQ
    have hss : s.size ≤ 2048 := HSZ.out s (List.mem_cons_self ..)
    have HS2 : Hid (∀ x ∈ ss, x.size ≤ 2048) := fun x hx => HSZ.out x (List.mem_cons_of_mem _ hx)
    have HRQ : Hid (∀ W, Calls Tryz.prog 47 #[.string s] W fun e w' => e = .returned (.tuple #[respV (statP s), .bool (statP s).ok]) ∧ Below W.heap.size W w') := fun W => by
      rw [sta_ref]
      exact rstatus_any s W (by unfold maxLen; omega)
    have HFO : Hid ((fldsP ss 40).1.length ≤ 40 ∧ FBd 1000 (fldsP ss 40).1) := ⟨(fldsP_ok ss 40).1, (fldsP_ok ss 40).2.1⟩
    have HFF : Hid (∀ (W : World) (x : Option Addr) (d : Nat), Txs W.heap.size W (.slice x ss.length d) ss → Calls Tryz.prog 48 #[.slice x ss.length d] W fun e w' => ∃ ao cv, e = .returned (.tuple #[.slice ao (fldsP ss 40).1.length cv, .int .i64 (fldsP ss 40).2]) ∧ OwnF W.heap.size w' (.slice ao (fldsP ss 40).1.length cv) (fldsP ss 40).1 ∧ Below W.heap.size W w') := fun W x d h => rfields_any ss x d W h HS2.out
    have hl1 : (s :: ss).length = ss.length + 1 := rfl
    rw [hl1] at HLN
    clear hq0 HSZ hss HS2 hl1
    generalize fldsP ss 40 = F at *
    obtain ⟨fs, sec⟩ := F
    simp only at HFO HFF
    generalize statP s = q at *
    obtain ⟨qc, qr, qn, qo⟩ := q
    unfold respV at HRQ
    simp only at HRQ
    have hL1 : ¬ ((ss.length + 1 : Nat) : Int) = 0 := by omega
    have hL2 : (((ss.length + 1 : Nat) : Int) == 0) = false := by simpa using hL1
    generalize hsl : ss.length = sl at *
    have HSL : Hid (ss.length = sl) := hsl
    clear hsl
    generalize hbl : b.length = bl at *
    have HBLE : Hid (b.length = bl) := hbl
    clear hbl
    go_enter Tryz.func19, Tryz.ntmps19
    go_wp2_with fail
    refine HLN.out.mono ?_
    rintro e w1 ⟨ao, cv, rfl, O1, D1, hg1, hs1⟩
    clear HLN
    have T1 := O1.txs
    have hlen1 := T1.len
    obtain ⟨a', c', e', hnil, q1, q2, q3⟩ := id T1
    obtain ⟨rfl, hx1, rfl⟩ := slice_inj e'
    clear hx1
    obtain ⟨g, off, rfl, hg, hc⟩ := q3 (by rw [List.length_cons]; omega)
    have c0 : w1.cell? ⟨g, off, none⟩ = some (.string s) := hc 0 (by rw [List.length_cons]; omega)
    have hcv1 : sl + 1 ≤ cv := hlen1.2.1
    have hcv2 : cv ≤ maxLen := hlen1.2.2
    unfold maxLen at hcv2
    have HT1 : Hid (Txs w1.heap.size w1 (.slice (some ⟨g, off, none⟩) (sl + 1) cv) (s :: ss)) := T1
    clear T1 hlen1 e' hnil q1 q2 q3 hc O1
    go_wp2_with fail
    refine (HRQ.out _).mono ?_
    rintro e w2 ⟨rfl, B2⟩
    have D2 := D1.trans (B2.mono D1.size)
    have hg2 := tblk_below hg1 B2
    have T2 : Hid (Txs w1.heap.size w2 (.slice (some ⟨g, off, none⟩) (sl + 1) cv) (s :: ss)) := HT1.out.keep B2
    have hsz2 : w1.heap.size ≤ w2.heap.size := B2.size
    have D3 := D2.alloc D2.size (.cells #[.int .i64 qc, .string qr, .int .i64 qn, .slice none 0 0, .slice none 0 0] 33)
    have U3 : Below w2.heap.size w2 (w2.alloc (.cells #[.int .i64 qc, .string qr, .int .i64 qn, .slice none 0 0, .slice none 0 0] 33)) := (Below.refl _ _).alloc (Nat.le_refl _) _
    have hg3 := tblk_below hg2 U3
    have hr3 := tblk_new w2 (.cells #[.int .i64 qc, .string qr, .int .i64 qn, .slice none 0 0, .slice none 0 0] 33)
    have T3 : Hid (Txs (w2.heap.size + 1) (w2.alloc (.cells #[.int .i64 qc, .string qr, .int .i64 qn, .slice none 0 0, .slice none 0 0] 33)) (.slice (some ⟨g, off, none⟩) (sl + 1) cv) (s :: ss)) := (T2.out.keep (U3.mono hsz2)).mono (by omega)
    have hsp : w.heap.size < w2.heap.size := by omega
    clear HRQ D1 B2 D2 hg1 hg2 T2 HT1 U3 c0 hs1 hg hsz2
    cases qo
    · have HE : Hid (Q = rpNo false) := HQ.out
      clear HQ HFF hr3 T3 hsp HCE HBQ HJQ HYB HBL HBLE
      have HBZ : Hid _ := five_below (.int .i64 0) (.string ⟨#[]⟩) (.int .i64 0) (.slice none 0 0) (.slice none 0 0) D3 (Nat.le_refl _)
      unfold five at HBZ
      have HW := five_cells hg3 (.int .i64 0) (.string ⟨#[]⟩) (.int .i64 0) (.slice none 0 0) (.slice none 0 0)
      have a0 := tblk_cell (i := 0) hg3 rfl
      have z0 := lblk_z (i := 0) hg3
      have a1 := tblk_cell (i := 1) hg3 rfl
      have z1 := lblk_z (i := 1) hg3
      have a2 := tblk_cell (i := 2) hg3 rfl
      have z2 := lblk_z (i := 2) hg3
      have a3 := tblk_cell (i := 3) hg3 rfl
      have z3 := lblk_z (i := 3) hg3
      have a4 := tblk_cell (i := 4) hg3 rfl
      have z4 := lblk_z (i := 4) hg3
      have r0 := tblk_cell (i := 0) HW rfl
      have r1 := tblk_cell (i := 1) HW rfl
      have r2 := tblk_cell (i := 2) HW rfl
      have r3 := tblk_cell (i := 3) HW rfl
      have r4 := tblk_cell (i := 4) HW rfl
      unfold five at r0 r1 r2 r3 r4
      clear HW hg3
      clear D3
      go_wp2
      refine bodyPost_ret (v := .tuple #[.agg #[.int .i64 0, .string ⟨#[]⟩, .int .i64 0, .slice none 0 0, .slice none 0 0], .int .i64 0, .bool false]) (by simp [results, Tryz.results19, go_sem, r0, r1, r2, r3, r4]) rfl ?_
      rw [HE.out]
      exact rpNo_ok HBZ.out
    · have HSZ3 : Hid ((w2.alloc (.cells #[.int .i64 qc, .string qr, .int .i64 qn, .slice none 0 0, .slice none 0 0] 33)).heap.size = w2.heap.size + 1) := by rw [Hid]; simp
      have hwp : w2.heap.size < (w2.alloc (.cells #[.int .i64 qc, .string qr, .int .i64 qn, .slice none 0 0, .slice none 0 0] 33)).heap.size := by simp
      go_wp2_with fail
      all_goals
        generalize w2.alloc (.cells #[.int .i64 qc, .string qr, .int .i64 qn, .slice none 0 0, .slice none 0 0] 33) = w3 at *
        generalize hpd : w2.heap.size = p at *
        have HTT : Hid (∀ x : Option Addr, (1 < cv → x = some ⟨g, off + 1, none⟩) → Txs w3.heap.size w3 (.slice x sl (cv - 1)) ss) := fun x hx => by
          have k := T3.out.tail (a' := x) (fun h => by rw [hx h]; show _ = some ((⟨g, off, none⟩ : Addr).add 1); rw [addr_add])
          rw [HSZ3.out]
          exact k
        have HF3 : Hid (∀ v : Value, Txs w3.heap.size w3 v ss → Calls Tryz.prog 48 #[v] w3 fun e w' => ∃ ao cv, e = .returned (.tuple #[.slice ao fs.length cv, .int .i64 sec]) ∧ OwnF w3.heap.size w' (.slice ao fs.length cv) fs ∧ Below w3.heap.size w3 w') := fun v hv => by
          obtain ⟨x, d, rfl, _⟩ := id hv
          have k := HFF.out w3 x d
          rw [HSL.out] at hv ⊢
          exact k hv
        clear hpd T3 HFF HSZ3
        refine (HF3.out _ (by first | exact HTT.out _ (fun _ => rfl) | (have hx := HTT.out (some ⟨g, off, none⟩) (fun h => by omega); rw [show cv - 1 = 0 by omega] at hx; exact hx))).mono ?_
        rintro e w4 ⟨fa, fc, rfl, O4, B4⟩
        have D4 := D3.trans (B4.mono D3.size)
        have hg4 := tblk_below hg3 B4
        have hr4 := tblk_below hr3 B4
        have hsz34 : w3.heap.size ≤ w4.heap.size := B4.size
        clear D3 hg3 hr3 B4 HF3 HTT HSL hcv1 hcv2
        by_cases hsec : sec = 0
        · subst hsec
          by_cases hn0 : n = 0
          · subst hn0
            have HE0 : Hid (Q = rpNo (decide (code = 0) && !ended)) := HQ.out
            clear HQ O4 hr4 HFO HCE HBQ HJQ HYB HBL HBLE
            by_cases hX : code = 0
            · subst hX
              cases ended
              · have HE : Hid (Q = rpNo true) := HE0.out
                clear HE0
                have HBZ : Hid _ := five_below (.int .i64 0) (.string ⟨#[]⟩) (.int .i64 0) (.slice none 0 0) (.slice none 0 0) D4 (Nat.le_refl _)
                unfold five at HBZ
                have HW := five_cells hg4 (.int .i64 0) (.string ⟨#[]⟩) (.int .i64 0) (.slice none 0 0) (.slice none 0 0)
                have a0 := tblk_cell (i := 0) hg4 rfl
                have z0 := lblk_z (i := 0) hg4
                have a1 := tblk_cell (i := 1) hg4 rfl
                have z1 := lblk_z (i := 1) hg4
                have a2 := tblk_cell (i := 2) hg4 rfl
                have z2 := lblk_z (i := 2) hg4
                have a3 := tblk_cell (i := 3) hg4 rfl
                have z3 := lblk_z (i := 3) hg4
                have a4 := tblk_cell (i := 4) hg4 rfl
                have z4 := lblk_z (i := 4) hg4
                have r0 := tblk_cell (i := 0) HW rfl
                have r1 := tblk_cell (i := 1) HW rfl
                have r2 := tblk_cell (i := 2) HW rfl
                have r3 := tblk_cell (i := 3) HW rfl
                have r4 := tblk_cell (i := 4) HW rfl
                unfold five at r0 r1 r2 r3 r4
                clear HW hg4
                clear D4
                go_wp2
                refine bodyPost_ret (v := .tuple #[.agg #[.int .i64 0, .string ⟨#[]⟩, .int .i64 0, .slice none 0 0, .slice none 0 0], .int .i64 0, .bool true]) (by simp [results, Tryz.results19, go_sem, r0, r1, r2, r3, r4]) rfl ?_
                rw [HE.out]
                exact rpNo_ok HBZ.out
              · have HE : Hid (Q = rpNo false) := HE0.out
                clear HE0
                have HBZ : Hid _ := five_below (.int .i64 0) (.string ⟨#[]⟩) (.int .i64 0) (.slice none 0 0) (.slice none 0 0) D4 (Nat.le_refl _)
                unfold five at HBZ
                have HW := five_cells hg4 (.int .i64 0) (.string ⟨#[]⟩) (.int .i64 0) (.slice none 0 0) (.slice none 0 0)
                have a0 := tblk_cell (i := 0) hg4 rfl
                have z0 := lblk_z (i := 0) hg4
                have a1 := tblk_cell (i := 1) hg4 rfl
                have z1 := lblk_z (i := 1) hg4
                have a2 := tblk_cell (i := 2) hg4 rfl
                have z2 := lblk_z (i := 2) hg4
                have a3 := tblk_cell (i := 3) hg4 rfl
                have z3 := lblk_z (i := 3) hg4
                have a4 := tblk_cell (i := 4) hg4 rfl
                have z4 := lblk_z (i := 4) hg4
                have r0 := tblk_cell (i := 0) HW rfl
                have r1 := tblk_cell (i := 1) HW rfl
                have r2 := tblk_cell (i := 2) HW rfl
                have r3 := tblk_cell (i := 3) HW rfl
                have r4 := tblk_cell (i := 4) HW rfl
                unfold five at r0 r1 r2 r3 r4
                clear HW hg4
                clear D4
                go_wp2
                refine bodyPost_ret (v := .tuple #[.agg #[.int .i64 0, .string ⟨#[]⟩, .int .i64 0, .slice none 0 0, .slice none 0 0], .int .i64 0, .bool false]) (by simp [results, Tryz.results19, go_sem, r0, r1, r2, r3, r4]) rfl ?_
                rw [HE.out]
                exact rpNo_ok HBZ.out
            · have hXb : (code == 0) = false := by simpa using hX
              have HE : Hid (Q = rpNo false) := by rw [Hid, HE0.out, decide_eq_false hX]; rfl
              clear HE0
              have HBZ : Hid _ := five_below (.int .i64 0) (.string ⟨#[]⟩) (.int .i64 0) (.slice none 0 0) (.slice none 0 0) D4 (Nat.le_refl _)
              unfold five at HBZ
              have HW := five_cells hg4 (.int .i64 0) (.string ⟨#[]⟩) (.int .i64 0) (.slice none 0 0) (.slice none 0 0)
              have a0 := tblk_cell (i := 0) hg4 rfl
              have z0 := lblk_z (i := 0) hg4
              have a1 := tblk_cell (i := 1) hg4 rfl
              have z1 := lblk_z (i := 1) hg4
              have a2 := tblk_cell (i := 2) hg4 rfl
              have z2 := lblk_z (i := 2) hg4
              have a3 := tblk_cell (i := 3) hg4 rfl
              have z3 := lblk_z (i := 3) hg4
              have a4 := tblk_cell (i := 4) hg4 rfl
              have z4 := lblk_z (i := 4) hg4
              have r0 := tblk_cell (i := 0) HW rfl
              have r1 := tblk_cell (i := 1) HW rfl
              have r2 := tblk_cell (i := 2) HW rfl
              have r3 := tblk_cell (i := 3) HW rfl
              have r4 := tblk_cell (i := 4) HW rfl
              unfold five at r0 r1 r2 r3 r4
              clear HW hg4
              clear D4
              go_wp2
              refine bodyPost_ret (v := .tuple #[.agg #[.int .i64 0, .string ⟨#[]⟩, .int .i64 0, .slice none 0 0, .slice none 0 0], .int .i64 0, .bool false]) (by simp [results, Tryz.results19, go_sem, r0, r1, r2, r3, r4]) rfl ?_
              rw [HE.out]
              exact rpNo_ok HBZ.out
          · have HQ2 : Hid (Q = endK ⟨qc, qr, qn, true⟩ fs b n ((respF method qc qn fs).1, (respF method qc qn fs).2.1.toNat, (respF method qc qn fs).2.2) ended) := by
              rw [Hid, HQ.out]
              unfold respK
              simp only [Bool.true_eq_false, if_false, if_true]
              rw [if_neg hn0]
            have hn1 : ¬ ((n : Nat) : Int) = 0 := by omega
            have hn2 : (((n : Nat) : Int) == 0) = false := by simpa using hn1
            clear HQ
            have hr5 := field3 (v := .slice fa fs.length fc) hr4
            have hg5 : (w4.setCell ⟨p, 3, none⟩ (.slice fa fs.length fc)).heap[w.heap.size]? = some (.cells #[.int .i64 0, .string ⟨#[]⟩, .int .i64 0, .slice none 0 0, .slice none 0 0] 33) := (set_away (by omega)).trans hg4
            have D5 : Below w.heap.size w (w4.setCell ⟨p, 3, none⟩ (.slice fa fs.length fc)) := D4.setCell (p := ⟨p, 3, none⟩) (Nat.le_of_lt hsp) _
            have O5 : OwnF w3.heap.size (w4.setCell ⟨p, 3, none⟩ (.slice fa fs.length fc)) (.slice fa fs.length fc) fs := O4.kept (fun k h1 h2 => set_away (by omega))
            have hsz5 : w3.heap.size ≤ (w4.setCell ⟨p, 3, none⟩ (.slice fa fs.length fc)).heap.size := by rw [set_size]; exact hsz34
            clear hsz34
            have y3 := tblk_cell (i := 3) hr4 rfl
            have x3 := lblk_z (i := 3) hr4
            have d0 := tblk_cell (i := 0) hr5 rfl
            have d1 := tblk_cell (i := 1) hr5 rfl
            have d2 := tblk_cell (i := 2) hr5 rfl
            have d3 := tblk_cell (i := 3) hr5 rfl
            have d4 := tblk_cell (i := 4) hr5 rfl
            clear D4 hg4 hr4 O4
            have HR7 : Hid (∀ W, Fds W.heap.size W (.slice fa fs.length fc) fs → Calls Tryz.prog 49 #[.string method, .agg #[.int .i64 qc, .string qr, .int .i64 qn, .slice fa fs.length fc, .slice none 0 0]] W fun e w' => e = .returned (.tuple #[.int .i64 (respF method qc qn fs).1, .int .i64 (respF method qc qn fs).2.1, .bool (respF method qc qn fs).2.2]) ∧ Below W.heap.size W w') := fun W F => rresponse_any method qr qc qn fs fa none fc 0 0 W F (bd_big HFO.out.2) (by have := HFO.out.1; omega)
            obtain ⟨sz, hsz⟩ : ∃ sz : Nat, (respF method qc qn fs).2.1 = (sz : Int) := ⟨(respF method qc qn fs).2.1.toNat, by have := respF_nn method qc qn fs; omega⟩
            have hszb : sz ≤ 4096 := by
              have k := (told_nn fs qn).2
              unfold respF at hsz
              split at hsz
              · simp only at hsz; omega
              · simp only at hsz; omega
            have hszt : (respF method qc qn fs).2.1.toNat = sz := by rw [hsz]; rfl
            rw [hszt] at HQ2
            rw [hsz] at HR7
            clear hsz hszt
            generalize (respF method qc qn fs).1 = k1 at *
            generalize (respF method qc qn fs).2.2 = k3 at *
            clear HFO
            have HFL : Hid (OwnF w3.heap.size (w4.setCell ⟨p, 3, none⟩ (.slice fa fs.length fc)) (.slice fa fs.length fc) fs) := O5
            clear O5
            go_wp2_with fail
            generalize w4.setCell ⟨p, 3, none⟩ (.slice fa fs.length fc) = w5 at *
            clear y3 x3
            refine (HR7.out _ HFL.out.fds).mono ?_
            rintro e w6 ⟨rfl, B6⟩
            have D6 := D5.trans (B6.mono D5.size)
            have hg6 := tblk_below hg5 B6
            have hr6 := tblk_below hr5 B6
            have HF6 : Hid (OwnF w3.heap.size w6 (.slice fa fs.length fc) fs) := HFL.out.keep B6
            have hw36 : w3.heap.size ≤ w6.heap.size := Nat.le_trans hsz5 B6.size
            clear hsz5
            clear HFL D5 B6 hg5 hr5 HR7 d0 d1 d2 d3 d4
            cases k3
            · have HE : Hid (Q = rpNo false) := HQ2.out
              clear HQ2 HF6 hr6 HCE HBQ HJQ HYB HBL HBLE
              have HBZ : Hid _ := five_below (.int .i64 0) (.string ⟨#[]⟩) (.int .i64 0) (.slice none 0 0) (.slice none 0 0) D6 (Nat.le_refl _)
              unfold five at HBZ
              have HW := five_cells hg6 (.int .i64 0) (.string ⟨#[]⟩) (.int .i64 0) (.slice none 0 0) (.slice none 0 0)
              have a0 := tblk_cell (i := 0) hg6 rfl
              have z0 := lblk_z (i := 0) hg6
              have a1 := tblk_cell (i := 1) hg6 rfl
              have z1 := lblk_z (i := 1) hg6
              have a2 := tblk_cell (i := 2) hg6 rfl
              have z2 := lblk_z (i := 2) hg6
              have a3 := tblk_cell (i := 3) hg6 rfl
              have z3 := lblk_z (i := 3) hg6
              have a4 := tblk_cell (i := 4) hg6 rfl
              have z4 := lblk_z (i := 4) hg6
              have r0 := tblk_cell (i := 0) HW rfl
              have r1 := tblk_cell (i := 1) HW rfl
              have r2 := tblk_cell (i := 2) HW rfl
              have r3 := tblk_cell (i := 3) HW rfl
              have r4 := tblk_cell (i := 4) HW rfl
              unfold five at r0 r1 r2 r3 r4
              clear HW hg6
              clear D6
              go_wp2
              refine bodyPost_ret (v := .tuple #[.agg #[.int .i64 0, .string ⟨#[]⟩, .int .i64 0, .slice none 0 0, .slice none 0 0], .int .i64 0, .bool false]) (by simp [results, Tryz.results19, go_sem, r0, r1, r2, r3, r4]) rfl ?_
              rw [HE.out]
              exact rpNo_ok HBZ.out
            · have HQ3 : Hid (Q = if k1 = 3 then (if bl - n ≤ 4096 then (if ended = true then ⟨qc, qr, qn, fs, b.drop n, bl, true⟩ else rpNo true) else rpNo false) else if (rbodyP (b.drop n) sz (decide (k1 = 2))).2.2.1 = true then ⟨qc, qr, qn, fs, (rbodyP (b.drop n) sz (decide (k1 = 2))).1, n + (rbodyP (b.drop n) sz (decide (k1 = 2))).2.1, true⟩ else rpNo (decide ((rbodyP (b.drop n) sz (decide (k1 = 2))).2.2.2 = 0) && !ended)) := by
                rw [Hid, HQ2.out, ← HBLE.out]
                rfl
              clear HQ2
              by_cases hk3 : k1 = 3
              · subst hk3
                rw [if_pos rfl] at HQ3
                clear HBQ HYB
                by_cases hbig : bl - n ≤ 4096
                · rw [if_pos hbig] at HQ3
                  have hbi : ¬ (4096 : Int) < (bl : Int) - (n : Int) := by omega
                  have hbb : decide ((4096 : Int) < (bl : Int) - (n : Int)) = false := decide_eq_false hbi
                  cases ended
                  · have HE : Hid (Q = rpNo true) := HQ3.out
                    clear HQ3 HF6 hr6 HCE HJQ HBL HBLE
                    have HBZ : Hid _ := five_below (.int .i64 0) (.string ⟨#[]⟩) (.int .i64 0) (.slice none 0 0) (.slice none 0 0) D6 (Nat.le_refl _)
                    unfold five at HBZ
                    have HW := five_cells hg6 (.int .i64 0) (.string ⟨#[]⟩) (.int .i64 0) (.slice none 0 0) (.slice none 0 0)
                    have a0 := tblk_cell (i := 0) hg6 rfl
                    have z0 := lblk_z (i := 0) hg6
                    have a1 := tblk_cell (i := 1) hg6 rfl
                    have z1 := lblk_z (i := 1) hg6
                    have a2 := tblk_cell (i := 2) hg6 rfl
                    have z2 := lblk_z (i := 2) hg6
                    have a3 := tblk_cell (i := 3) hg6 rfl
                    have z3 := lblk_z (i := 3) hg6
                    have a4 := tblk_cell (i := 4) hg6 rfl
                    have z4 := lblk_z (i := 4) hg6
                    have r0 := tblk_cell (i := 0) HW rfl
                    have r1 := tblk_cell (i := 1) HW rfl
                    have r2 := tblk_cell (i := 2) HW rfl
                    have r3 := tblk_cell (i := 3) HW rfl
                    have r4 := tblk_cell (i := 4) HW rfl
                    unfold five at r0 r1 r2 r3 r4
                    clear HW hg6
                    clear D6
                    go_wp2
                    refine bodyPost_ret (v := .tuple #[.agg #[.int .i64 0, .string ⟨#[]⟩, .int .i64 0, .slice none 0 0, .slice none 0 0], .int .i64 0, .bool true]) (by simp [results, Tryz.results19, go_sem, r0, r1, r2, r3, r4]) rfl ?_
                    rw [HE.out]
                    exact rpNo_ok HBZ.out
                  · have HE : Hid (Q = ⟨qc, qr, qn, fs, b.drop n, bl, true⟩) := HQ3.out
                    clear HQ3
                    have HCE2 := HCE.out w6 n
                    have hcell : Hid (∀ a' : Option Addr, (n < c → a' = a.map (fun x => x.add n)) → Src w6 kb (.slice a' (bl - n) (c - n)) (b.drop n)) := fun a' h => HCE2 a' D6 hnle h
                    have HBD : Hid (∀ v : Value, Src w6 kb v (b.drop n) → Calls Tryz.prog 50 #[v, .slice (some ⟨w6.heap.size, 0, none⟩) 0 0] (w6.alloc (.cells #[] 5)) fun e w' => ∃ v', e = .returned v' ∧ Own w6.heap.size w' v' (b.drop n) ∧ Below w6.heap.size w6 w') := fun v h => HJQ.out w6 v n D6 h
                    clear HCE HJQ HCE2 HBL HBLE
                    generalize b.drop n = bd at *
                    go_wp2_with fail
                    all_goals
                      refine (HBD.out _ (by first | (have hx := hcell.out a (fun h => by omega); rw [show c - n = 0 by omega] at hx; exact hx) | exact hcell.out _ (fun _ => rfl) | exact hcell.out _ (fun h => if_neg (by omega)) | exact hcell.out _ (fun h => by omega))).mono ?_
                      rintro e w8 ⟨v8, rfl, P8, B8⟩
                      have D8 := D6.trans (B8.mono D6.size)
                      have hg8 := tblk_below hg6 B8
                      have hr8 := tblk_below hr6 B8
                      have HF9 : Hid (OwnF w3.heap.size w8 (.slice fa fs.length fc) fs) := HF6.out.keep B8
                      clear D6 hg6 hr6 HF6 B8 HBD hcell
                      obtain ⟨ad9, c9, rfl, _⟩ := P8.form
                      have hr9 := field4 (v := .slice ad9 bd.length c9) hr8
                      have hg9 : (w8.setCell ⟨p, 4, none⟩ (.slice ad9 bd.length c9)).heap[w.heap.size]? = some (.cells #[.int .i64 0, .string ⟨#[]⟩, .int .i64 0, .slice none 0 0, .slice none 0 0] 33) := (set_away (by omega)).trans hg8
                      have D9 : Below w.heap.size w (w8.setCell ⟨p, 4, none⟩ (.slice ad9 bd.length c9)) := D8.setCell (p := ⟨p, 4, none⟩) (Nat.le_of_lt hsp) _
                      have HB5 : Hid _ := five_below (.int .i64 qc) (.string qr) (.int .i64 qn) (.slice fa fs.length fc) (.slice ad9 bd.length c9) D9 (Nat.le_refl _)
                      have HO5 : Hid (OwnF w.heap.size (five (w8.setCell ⟨p, 4, none⟩ (.slice ad9 bd.length c9)) w.heap.size (.int .i64 qc) (.string qr) (.int .i64 qn) (.slice fa fs.length fc) (.slice ad9 bd.length c9)) (.slice fa fs.length fc) fs) := (HF9.out.kept (fun k h1 h2 => (five_away (by omega)).trans (set_away (by omega)))).mono (by omega)
                      have HP5 : Hid (Own w.heap.size (five (w8.setCell ⟨p, 4, none⟩ (.slice ad9 bd.length c9)) w.heap.size (.int .i64 qc) (.string qr) (.int .i64 qn) (.slice fa fs.length fc) (.slice ad9 bd.length c9)) (.slice ad9 bd.length c9) bd) := (P8.kept (fun k h1 h2 => (five_away (by omega)).trans (set_away (by omega)))).mono (by omega)
                      unfold five at HB5 HO5 HP5
                      have y4 := tblk_cell (i := 4) hr8 rfl
                      have x4 := lblk_z (i := 4) hr8
                      have d0 := tblk_cell (i := 0) hr9 rfl
                      have d1 := tblk_cell (i := 1) hr9 rfl
                      have d2 := tblk_cell (i := 2) hr9 rfl
                      have d3 := tblk_cell (i := 3) hr9 rfl
                      have d4 := tblk_cell (i := 4) hr9 rfl
                      clear hr8 hr9 hg8 D8 D9 P8 HF9 
                      generalize hxl : bd.length = xl at *
                      have HXL : Hid (bd.length = xl) := hxl
                      clear hxl
                      have HW := five_cells hg9 (.int .i64 qc) (.string qr) (.int .i64 qn) (.slice fa fs.length fc) (.slice ad9 xl c9)
                      have a0 := tblk_cell (i := 0) hg9 rfl
                      have z0 := lblk_z (i := 0) hg9
                      have a1 := tblk_cell (i := 1) hg9 rfl
                      have z1 := lblk_z (i := 1) hg9
                      have a2 := tblk_cell (i := 2) hg9 rfl
                      have z2 := lblk_z (i := 2) hg9
                      have a3 := tblk_cell (i := 3) hg9 rfl
                      have z3 := lblk_z (i := 3) hg9
                      have a4 := tblk_cell (i := 4) hg9 rfl
                      have z4 := lblk_z (i := 4) hg9
                      have r0 := tblk_cell (i := 0) HW rfl
                      have r1 := tblk_cell (i := 1) HW rfl
                      have r2 := tblk_cell (i := 2) HW rfl
                      have r3 := tblk_cell (i := 3) HW rfl
                      have r4 := tblk_cell (i := 4) HW rfl
                      unfold five at r0 r1 r2 r3 r4
                      clear HW hg9
                      go_wp2
                      refine bodyPost_ret (v := .tuple #[.agg #[.int .i64 qc, .string qr, .int .i64 qn, .slice fa fs.length fc, .slice ad9 xl c9], .int .i64 (bl : Int), .bool true]) (by simp [results, Tryz.results19, go_sem, r0, r1, r2, r3, r4]) rfl ?_
                      rw [HE.out]
                      obtain rfl := HXL.out
                      exact ⟨fa, ad9, fc, c9, rfl, HO5.out, HP5.out, HB5.out⟩
                · rw [if_neg hbig] at HQ3
                  have hbi : (4096 : Int) < (bl : Int) - (n : Int) := by omega
                  have HE : Hid (Q = rpNo false) := HQ3.out
                  clear HQ3 HF6 hr6 HCE HJQ HBL HBLE
                  have HBZ : Hid _ := five_below (.int .i64 0) (.string ⟨#[]⟩) (.int .i64 0) (.slice none 0 0) (.slice none 0 0) D6 (Nat.le_refl _)
                  unfold five at HBZ
                  have HW := five_cells hg6 (.int .i64 0) (.string ⟨#[]⟩) (.int .i64 0) (.slice none 0 0) (.slice none 0 0)
                  have a0 := tblk_cell (i := 0) hg6 rfl
                  have z0 := lblk_z (i := 0) hg6
                  have a1 := tblk_cell (i := 1) hg6 rfl
                  have z1 := lblk_z (i := 1) hg6
                  have a2 := tblk_cell (i := 2) hg6 rfl
                  have z2 := lblk_z (i := 2) hg6
                  have a3 := tblk_cell (i := 3) hg6 rfl
                  have z3 := lblk_z (i := 3) hg6
                  have a4 := tblk_cell (i := 4) hg6 rfl
                  have z4 := lblk_z (i := 4) hg6
                  have r0 := tblk_cell (i := 0) HW rfl
                  have r1 := tblk_cell (i := 1) HW rfl
                  have r2 := tblk_cell (i := 2) HW rfl
                  have r3 := tblk_cell (i := 3) HW rfl
                  have r4 := tblk_cell (i := 4) HW rfl
                  unfold five at r0 r1 r2 r3 r4
                  clear HW hg6
                  clear D6
                  go_wp2
                  refine bodyPost_ret (v := .tuple #[.agg #[.int .i64 0, .string ⟨#[]⟩, .int .i64 0, .slice none 0 0, .slice none 0 0], .int .i64 0, .bool false]) (by simp [results, Tryz.results19, go_sem, r0, r1, r2, r3, r4]) rfl ?_
                  rw [HE.out]
                  exact rpNo_ok HBZ.out
              · rw [if_neg hk3] at HQ3
                have hk3b : (k1 == 3) = false := by simpa using hk3
                clear HJQ
                have HCE2 := HCE.out w6 n
                have hcell : Hid (∀ a' : Option Addr, (n < c → a' = a.map (fun x => x.add n)) → Src w6 kb (.slice a' (bl - n) (c - n)) (b.drop n)) := fun a' h => HCE2 a' D6 hnle h
                have HBD : Hid (∀ v : Value, Src w6 kb v (b.drop n) → Calls Tryz.prog 33 #[v, .int .i64 (sz : Nat), .bool (decide (k1 = 2))] w6 (BodyR w6 (rbodyP (b.drop n) sz (decide (k1 = 2))))) := fun v h => HBQ.out w6 v n sz _ D6 hszb h
                have hyb := HYB.out n sz (decide (k1 = 2))
                have HWH : Hid ((rbodyP (b.drop n) sz (decide (k1 = 2))).2.2.1 = true → (rbodyP (b.drop n) sz (decide (k1 = 2))).2.2.2 = 0) := body_whole _ _ _
                generalize b.drop n = bd at *
                generalize rbodyP bd sz (decide (k1 = 2)) = Y at *
                obtain ⟨Y1, Y2, Y3, Y4⟩ := Y
                simp only at HQ3 HWH hyb
                unfold BodyR at HBD
                simp only at HBD
                clear HCE HBQ HYB HCE2 HBL HBLE
                obtain ⟨cd, hcd⟩ : ∃ cd, cd = decide (k1 = 2) := ⟨_, rfl⟩
                have hcd2 : (k1 == 2) = cd := by rw [hcd]; exact eq_dec _ _
                rw [← hcd] at HBD
                clear hcd
                go_wp2_with fail
                all_goals
                  refine (HBD.out _ (by first | (have hx := hcell.out a (fun h => by omega); rw [show c - n = 0 by omega] at hx; exact hx) | exact hcell.out _ (fun _ => rfl) | exact hcell.out _ (fun h => if_neg (by omega)) | exact hcell.out _ (fun h => by omega))).mono ?_
                  rintro e w8 ⟨v8, rfl, P8, B8⟩
                  have D8 := D6.trans (B8.mono D6.size)
                  have hg8 := tblk_below hg6 B8
                  have hr8 := tblk_below hr6 B8
                  have HF9 : Hid (OwnF w3.heap.size w8 (.slice fa fs.length fc) fs) := HF6.out.keep B8
                  clear D6 hg6 hr6 HF6 B8 HBD hcell hcd2
                  cases Y3
                  · have HE0 : Hid (Q = rpNo (decide (Y4 = 0) && !ended)) := HQ3.out
                    clear HQ3 HWH HF9 hr8 P8
                    by_cases hX : Y4 = 0
                    · subst hX
                      cases ended
                      · have HE : Hid (Q = rpNo true) := HE0.out
                        clear HE0
                        have HBZ : Hid _ := five_below (.int .i64 0) (.string ⟨#[]⟩) (.int .i64 0) (.slice none 0 0) (.slice none 0 0) D8 (Nat.le_refl _)
                        unfold five at HBZ
                        have HW := five_cells hg8 (.int .i64 0) (.string ⟨#[]⟩) (.int .i64 0) (.slice none 0 0) (.slice none 0 0)
                        have a0 := tblk_cell (i := 0) hg8 rfl
                        have z0 := lblk_z (i := 0) hg8
                        have a1 := tblk_cell (i := 1) hg8 rfl
                        have z1 := lblk_z (i := 1) hg8
                        have a2 := tblk_cell (i := 2) hg8 rfl
                        have z2 := lblk_z (i := 2) hg8
                        have a3 := tblk_cell (i := 3) hg8 rfl
                        have z3 := lblk_z (i := 3) hg8
                        have a4 := tblk_cell (i := 4) hg8 rfl
                        have z4 := lblk_z (i := 4) hg8
                        have r0 := tblk_cell (i := 0) HW rfl
                        have r1 := tblk_cell (i := 1) HW rfl
                        have r2 := tblk_cell (i := 2) HW rfl
                        have r3 := tblk_cell (i := 3) HW rfl
                        have r4 := tblk_cell (i := 4) HW rfl
                        unfold five at r0 r1 r2 r3 r4
                        clear HW hg8
                        clear D8
                        go_wp2
                        refine bodyPost_ret (v := .tuple #[.agg #[.int .i64 0, .string ⟨#[]⟩, .int .i64 0, .slice none 0 0, .slice none 0 0], .int .i64 0, .bool true]) (by simp [results, Tryz.results19, go_sem, r0, r1, r2, r3, r4]) rfl ?_
                        rw [HE.out]
                        exact rpNo_ok HBZ.out
                      · have HE : Hid (Q = rpNo false) := HE0.out
                        clear HE0
                        have HBZ : Hid _ := five_below (.int .i64 0) (.string ⟨#[]⟩) (.int .i64 0) (.slice none 0 0) (.slice none 0 0) D8 (Nat.le_refl _)
                        unfold five at HBZ
                        have HW := five_cells hg8 (.int .i64 0) (.string ⟨#[]⟩) (.int .i64 0) (.slice none 0 0) (.slice none 0 0)
                        have a0 := tblk_cell (i := 0) hg8 rfl
                        have z0 := lblk_z (i := 0) hg8
                        have a1 := tblk_cell (i := 1) hg8 rfl
                        have z1 := lblk_z (i := 1) hg8
                        have a2 := tblk_cell (i := 2) hg8 rfl
                        have z2 := lblk_z (i := 2) hg8
                        have a3 := tblk_cell (i := 3) hg8 rfl
                        have z3 := lblk_z (i := 3) hg8
                        have a4 := tblk_cell (i := 4) hg8 rfl
                        have z4 := lblk_z (i := 4) hg8
                        have r0 := tblk_cell (i := 0) HW rfl
                        have r1 := tblk_cell (i := 1) HW rfl
                        have r2 := tblk_cell (i := 2) HW rfl
                        have r3 := tblk_cell (i := 3) HW rfl
                        have r4 := tblk_cell (i := 4) HW rfl
                        unfold five at r0 r1 r2 r3 r4
                        clear HW hg8
                        clear D8
                        go_wp2
                        refine bodyPost_ret (v := .tuple #[.agg #[.int .i64 0, .string ⟨#[]⟩, .int .i64 0, .slice none 0 0, .slice none 0 0], .int .i64 0, .bool false]) (by simp [results, Tryz.results19, go_sem, r0, r1, r2, r3, r4]) rfl ?_
                        rw [HE.out]
                        exact rpNo_ok HBZ.out
                    · have hXb : (Y4 == 0) = false := by simpa using hX
                      have HE : Hid (Q = rpNo false) := by rw [Hid, HE0.out, decide_eq_false hX]; rfl
                      clear HE0
                      have HBZ : Hid _ := five_below (.int .i64 0) (.string ⟨#[]⟩) (.int .i64 0) (.slice none 0 0) (.slice none 0 0) D8 (Nat.le_refl _)
                      unfold five at HBZ
                      have HW := five_cells hg8 (.int .i64 0) (.string ⟨#[]⟩) (.int .i64 0) (.slice none 0 0) (.slice none 0 0)
                      have a0 := tblk_cell (i := 0) hg8 rfl
                      have z0 := lblk_z (i := 0) hg8
                      have a1 := tblk_cell (i := 1) hg8 rfl
                      have z1 := lblk_z (i := 1) hg8
                      have a2 := tblk_cell (i := 2) hg8 rfl
                      have z2 := lblk_z (i := 2) hg8
                      have a3 := tblk_cell (i := 3) hg8 rfl
                      have z3 := lblk_z (i := 3) hg8
                      have a4 := tblk_cell (i := 4) hg8 rfl
                      have z4 := lblk_z (i := 4) hg8
                      have r0 := tblk_cell (i := 0) HW rfl
                      have r1 := tblk_cell (i := 1) HW rfl
                      have r2 := tblk_cell (i := 2) HW rfl
                      have r3 := tblk_cell (i := 3) HW rfl
                      have r4 := tblk_cell (i := 4) HW rfl
                      unfold five at r0 r1 r2 r3 r4
                      clear HW hg8
                      clear D8
                      go_wp2
                      refine bodyPost_ret (v := .tuple #[.agg #[.int .i64 0, .string ⟨#[]⟩, .int .i64 0, .slice none 0 0, .slice none 0 0], .int .i64 0, .bool false]) (by simp [results, Tryz.results19, go_sem, r0, r1, r2, r3, r4]) rfl ?_
                      rw [HE.out]
                      exact rpNo_ok HBZ.out
                  · have hy4 : Y4 = 0 := HWH.out rfl
                    subst hy4
                    have HE : Hid (Q = ⟨qc, qr, qn, fs, Y1, n + Y2, true⟩) := HQ3.out
                    clear HQ3 HWH
                    obtain ⟨ad9, c9, rfl, _⟩ := P8.form
                    have hr9 := field4 (v := .slice ad9 Y1.length c9) hr8
                    have hg9 : (w8.setCell ⟨p, 4, none⟩ (.slice ad9 Y1.length c9)).heap[w.heap.size]? = some (.cells #[.int .i64 0, .string ⟨#[]⟩, .int .i64 0, .slice none 0 0, .slice none 0 0] 33) := (set_away (by omega)).trans hg8
                    have D9 : Below w.heap.size w (w8.setCell ⟨p, 4, none⟩ (.slice ad9 Y1.length c9)) := D8.setCell (p := ⟨p, 4, none⟩) (Nat.le_of_lt hsp) _
                    have HB5 : Hid _ := five_below (.int .i64 qc) (.string qr) (.int .i64 qn) (.slice fa fs.length fc) (.slice ad9 Y1.length c9) D9 (Nat.le_refl _)
                    have HO5 : Hid (OwnF w.heap.size (five (w8.setCell ⟨p, 4, none⟩ (.slice ad9 Y1.length c9)) w.heap.size (.int .i64 qc) (.string qr) (.int .i64 qn) (.slice fa fs.length fc) (.slice ad9 Y1.length c9)) (.slice fa fs.length fc) fs) := (HF9.out.kept (fun k h1 h2 => (five_away (by omega)).trans (set_away (by omega)))).mono (by omega)
                    have HP5 : Hid (Own w.heap.size (five (w8.setCell ⟨p, 4, none⟩ (.slice ad9 Y1.length c9)) w.heap.size (.int .i64 qc) (.string qr) (.int .i64 qn) (.slice fa fs.length fc) (.slice ad9 Y1.length c9)) (.slice ad9 Y1.length c9) Y1) := (P8.kept (fun k h1 h2 => (five_away (by omega)).trans (set_away (by omega)))).mono (by omega)
                    unfold five at HB5 HO5 HP5
                    have y4 := tblk_cell (i := 4) hr8 rfl
                    have x4 := lblk_z (i := 4) hr8
                    have d0 := tblk_cell (i := 0) hr9 rfl
                    have d1 := tblk_cell (i := 1) hr9 rfl
                    have d2 := tblk_cell (i := 2) hr9 rfl
                    have d3 := tblk_cell (i := 3) hr9 rfl
                    have d4 := tblk_cell (i := 4) hr9 rfl
                    clear hr8 hr9 hg8 D8 D9 P8 HF9 
                    generalize hxl : Y1.length = xl at *
                    have HXL : Hid (Y1.length = xl) := hxl
                    clear hxl
                    have HW := five_cells hg9 (.int .i64 qc) (.string qr) (.int .i64 qn) (.slice fa fs.length fc) (.slice ad9 xl c9)
                    have a0 := tblk_cell (i := 0) hg9 rfl
                    have z0 := lblk_z (i := 0) hg9
                    have a1 := tblk_cell (i := 1) hg9 rfl
                    have z1 := lblk_z (i := 1) hg9
                    have a2 := tblk_cell (i := 2) hg9 rfl
                    have z2 := lblk_z (i := 2) hg9
                    have a3 := tblk_cell (i := 3) hg9 rfl
                    have z3 := lblk_z (i := 3) hg9
                    have a4 := tblk_cell (i := 4) hg9 rfl
                    have z4 := lblk_z (i := 4) hg9
                    have r0 := tblk_cell (i := 0) HW rfl
                    have r1 := tblk_cell (i := 1) HW rfl
                    have r2 := tblk_cell (i := 2) HW rfl
                    have r3 := tblk_cell (i := 3) HW rfl
                    have r4 := tblk_cell (i := 4) HW rfl
                    unfold five at r0 r1 r2 r3 r4
                    clear HW hg9
                    go_wp2
                    refine bodyPost_ret (v := .tuple #[.agg #[.int .i64 qc, .string qr, .int .i64 qn, .slice fa fs.length fc, .slice ad9 xl c9], .int .i64 ((n : Int) + (Y2 : Int)), .bool true]) (by simp [results, Tryz.results19, go_sem, r0, r1, r2, r3, r4]) rfl ?_
                    rw [HE.out]
                    obtain rfl := HXL.out
                    exact ⟨fa, ad9, fc, c9, by unfold rpV; simp only; rw [Int.natCast_add], HO5.out, HP5.out, HB5.out⟩
        · have HE : Hid (Q = rpNo false) := by
            rw [Hid, HQ.out]
            unfold respK
            simp only [Bool.true_eq_false, if_false]
            rw [if_neg hsec]
          have hsb : (sec != 0) = true := by simpa using hsec
          clear HQ O4 hr4 HFO HCE HBQ HJQ HYB HBL HBLE
          have HBZ : Hid _ := five_below (.int .i64 0) (.string ⟨#[]⟩) (.int .i64 0) (.slice none 0 0) (.slice none 0 0) D4 (Nat.le_refl _)
          unfold five at HBZ
          have HW := five_cells hg4 (.int .i64 0) (.string ⟨#[]⟩) (.int .i64 0) (.slice none 0 0) (.slice none 0 0)
          have a0 := tblk_cell (i := 0) hg4 rfl
          have z0 := lblk_z (i := 0) hg4
          have a1 := tblk_cell (i := 1) hg4 rfl
          have z1 := lblk_z (i := 1) hg4
          have a2 := tblk_cell (i := 2) hg4 rfl
          have z2 := lblk_z (i := 2) hg4
          have a3 := tblk_cell (i := 3) hg4 rfl
          have z3 := lblk_z (i := 3) hg4
          have a4 := tblk_cell (i := 4) hg4 rfl
          have z4 := lblk_z (i := 4) hg4
          have r0 := tblk_cell (i := 0) HW rfl
          have r1 := tblk_cell (i := 1) HW rfl
          have r2 := tblk_cell (i := 2) HW rfl
          have r3 := tblk_cell (i := 3) HW rfl
          have r4 := tblk_cell (i := 4) HW rfl
          unfold five at r0 r1 r2 r3 r4
          clear HW hg4
          clear D4
          go_wp2
          refine bodyPost_ret (v := .tuple #[.agg #[.int .i64 0, .string ⟨#[]⟩, .int .i64 0, .slice none 0 0, .slice none 0 0], .int .i64 0, .bool false]) (by simp [results, Tryz.results19, go_sem, r0, r1, r2, r3, r4]) rfl ?_
          rw [HE.out]
          exact rpNo_ok HBZ.out
end Go.Proofs.YtkdnckkdofoaoaaGreatDoor

/- The reference's SameResp: equal responses are the same. -/
namespace Go.Proofs.YtkdnckkdofoaoaaGreatDoor
open Go.RowKit
set_option linter.unusedVariables false

set_option maxRecDepth 100000 in
set_option maxHeartbeats 2000000 in
theorem sameresp_eq (m : Int) (t : ByteArray) (mi : Int) (fs : Fs) (body : List UInt8) (a1 a2 b1 b2 : Option Addr) (c1 c2 d1 d2 k1 k2 : Nat) (w : World) (hf1 : Fds w.heap.size w (.slice a1 fs.length c1) fs) (hf2 : Fds w.heap.size w (.slice a2 fs.length c2) fs) (hs1 : Src w k1 (.slice b1 body.length d1) body) (hk1 : 0 < body.length → k1 < w.heap.size) (hs2 : Src w k2 (.slice b2 body.length d2) body) (hk2 : 0 < body.length → k2 < w.heap.size) :
    Calls Tryz.prog 20 #[.agg #[.int .i64 m, .string t, .int .i64 mi, .slice a1 fs.length c1, .slice b1 body.length d1], .agg #[.int .i64 m, .string t, .int .i64 mi, .slice a2 fs.length c2, .slice b2 body.length d2]] w fun e w' => e = .returned (.bool true) ∧ Below w.heap.size w w' := by
  have C1 : Below w.heap.size w (w.alloc (.cells #[.int .i64 m, .string t, .int .i64 mi, .slice a1 fs.length c1, .slice b1 body.length d1] 33)) := (Below.refl _ _).alloc (Nat.le_refl _) _
  have C2 : Below w.heap.size w ((w.alloc (.cells #[.int .i64 m, .string t, .int .i64 mi, .slice a1 fs.length c1, .slice b1 body.length d1] 33)).alloc (.cells #[.int .i64 m, .string t, .int .i64 mi, .slice a2 fs.length c2, .slice b2 body.length d2] 33)) := C1.alloc C1.size _
  have h1 : ((w.alloc (.cells #[.int .i64 m, .string t, .int .i64 mi, .slice a1 fs.length c1, .slice b1 body.length d1] 33)).alloc (.cells #[.int .i64 m, .string t, .int .i64 mi, .slice a2 fs.length c2, .slice b2 body.length d2] 33)).heap[w.heap.size]? = some (.cells #[.int .i64 m, .string t, .int .i64 mi, .slice a1 fs.length c1, .slice b1 body.length d1] 33) := tblk_below (tblk_new _ _) ((Below.refl _ _).alloc (Nat.le_refl _) _)
  have h2 : ((w.alloc (.cells #[.int .i64 m, .string t, .int .i64 mi, .slice a1 fs.length c1, .slice b1 body.length d1] 33)).alloc (.cells #[.int .i64 m, .string t, .int .i64 mi, .slice a2 fs.length c2, .slice b2 body.length d2] 33)).heap[w.heap.size + 1]? = some (.cells #[.int .i64 m, .string t, .int .i64 mi, .slice a2 fs.length c2, .slice b2 body.length d2] 33) := by
    have k := tblk_new (w.alloc (.cells #[.int .i64 m, .string t, .int .i64 mi, .slice a1 fs.length c1, .slice b1 body.length d1] 33)) (.cells #[.int .i64 m, .string t, .int .i64 mi, .slice a2 fs.length c2, .slice b2 body.length d2] 33)
    have e : (w.alloc (.cells #[.int .i64 m, .string t, .int .i64 mi, .slice a1 fs.length c1, .slice b1 body.length d1] 33)).heap.size = w.heap.size + 1 := by simp
    rw [e] at k
    exact k
  have HF : Hid (Calls Tryz.prog 26 #[.slice a1 fs.length c1, .slice a2 fs.length c2] ((w.alloc (.cells #[.int .i64 m, .string t, .int .i64 mi, .slice a1 fs.length c1, .slice b1 body.length d1] 33)).alloc (.cells #[.int .i64 m, .string t, .int .i64 mi, .slice a2 fs.length c2, .slice b2 body.length d2] 33)) fun e w' => e = .returned (.bool true) ∧ Below w.heap.size w w' ∧ w'.cell? ⟨w.heap.size, 4, none⟩ = some (.slice b1 body.length d1) ∧ w'.cell? ⟨w.heap.size + 1, 4, none⟩ = some (.slice b2 body.length d2)) := by
    refine (rsame_eq fs a1 a2 c1 c2 _ (hf1.over C2) (hf2.over C2)).mono ?_
    rintro e w' ⟨he, hB⟩
    exact ⟨he, C2.trans (hB.mono C2.size), tblk_cell (tblk_below h1 hB) rfl, tblk_cell (tblk_below h2 hB) rfl⟩
  have HS : Hid (∀ W, Below w.heap.size w W → Calls Tryz.prog 25 #[.slice b1 body.length d1, .slice b2 body.length d2] W fun e w' => e = .returned (.bool true) ∧ Below W.heap.size W w') := fun W B => sameBytes_eq body k1 k2 _ _ W (hs1.keep hk1 B) (hs2.keep hk2 B)
  have x0 := tblk_cell (i := 0) h1 rfl
  have x1 := tblk_cell (i := 1) h1 rfl
  have x2 := tblk_cell (i := 2) h1 rfl
  have x3 := tblk_cell (i := 3) h1 rfl
  have y0 := tblk_cell (i := 0) h2 rfl
  have y1 := tblk_cell (i := 1) h2 rfl
  have y2 := tblk_cell (i := 2) h2 rfl
  have y3 := tblk_cell (i := 3) h2 rfl
  clear hf1 hf2 hs1 hk1 hs2 hk2 C1 C2 h1 h2
  generalize fs.length = fl at *
  generalize body.length = bl at *
  go_enter Tryz.func20, Tryz.ntmps20
  go_wp2_with fail
  refine HF.out.mono ?_
  rintro e w1 ⟨rfl, B1, q1, q2⟩
  clear HF x0 x1 x2 x3 y0 y1 y2 y3
  go_wp2_with fail
  refine (HS.out _ B1).mono ?_
  rintro e w2 ⟨rfl, B2⟩
  have D2 := B1.trans (B2.mono B1.size)
  go_wp2
  go_ret
  exact ⟨rfl, D2⟩
end Go.Proofs.YtkdnckkdofoaoaaGreatDoor

/- HttpResponses walked. -/
namespace Go.Proofs.YtkdnckkdofoaoaaGreatDoor
open Go.ChangeShapes Go.WideShapes Go.ChangeAt Go.RowKit
set_option linter.unusedVariables false

theorem sameresp_q {B C : Nat} (m : Int) (t : ByteArray) (mi : Int) (fs : Fs) (x : List UInt8) (W : World) (a1 a2 b1 b2 : Option Addr) (c1 c2 d1 d2 : Nat) (f1 : OwnF B W (.slice a1 fs.length c1) fs) (f2 : OwnF C W (.slice a2 fs.length c2) fs) (s1 : Own B W (.slice b1 x.length d1) x) (s2 : Own C W (.slice b2 x.length d2) x) :
    Calls Tryz.prog 20 #[.agg #[.int .i64 m, .string t, .int .i64 mi, .slice a1 fs.length c1, .slice b1 x.length d1], .agg #[.int .i64 m, .string t, .int .i64 mi, .slice a2 fs.length c2, .slice b2 x.length d2]] W fun e w' => e = .returned (.bool true) ∧ Below W.heap.size W w' := by
  obtain ⟨k1, S1, K1⟩ := s1.src
  obtain ⟨k2, S2, K2⟩ := s2.src
  exact sameresp_eq m t mi fs x a1 a2 b1 b2 c1 c2 d1 d2 k1 k2 W f1.fds f2.fds S1 (fun q => (K1 q).2) S2 (fun q => (K2 q).2)
theorem blk5p {W : World} {p : Nat} {v0 v1 v2 v3 v4 : Value} (h : W.heap[p]? = some (.cells #[v0, v1, v2, v3, v4] 33)) : W.cell? ⟨p, 0, none⟩ = some v0 ∧ W.cell? ⟨p, 1, none⟩ = some v1 ∧ W.cell? ⟨p, 2, none⟩ = some v2 ∧ W.cell? ⟨p, 3, none⟩ = some v3 ∧ W.cell? ⟨p, 4, none⟩ = some v4 :=
  ⟨tblk_cell h rfl, tblk_cell h rfl, tblk_cell h rfl, tblk_cell h rfl, tblk_cell h rfl⟩

set_option maxRecDepth 100000 in
set_option maxHeartbeats 8000000 in
theorem responses8_walk (kb len cap : Nat) (a : Option Addr) (b : List UInt8) (method : ByteArray) (ended : Bool) (w : World) (hb : Src w kb (.slice a len cap) b) (hkb : 0 < b.length → kb < w.heap.size) (hL : Lv w) :
    Calls Tryz.prog 4 #[.slice a len cap, .string method, .bool ended] w fun e w' => e = .returned (.bool true) ∧ Below w.heap.size w w' := by
  have HA : Hid (Calls Tryz.prog 17 #[] w fun e w' => e = .returned (.bool true) ∧ Below w.heap.size w w') := answering_any w hL
  have hlb := hb.len
  by_cases hbig : 8000 < len
  · have h1 : (8000 : Int) < (len : Int) := by omega
    clear hb hkb hL hlb
    go_enter Tryz.func4, Tryz.ntmps4
    go_wp2_with fail
    refine HA.out.mono ?_
    rintro e w1 ⟨rfl, B1⟩
    go_wp2
    go_ret
    exact ⟨rfl, B1⟩
  have h1 : ¬ (8000 : Int) < (len : Int) := by omega
  obtain ⟨hb1, hb2, hb3⟩ := hlb
  subst hb1
  have HR1 : Hid (∀ W, Below w.heap.size w W → Calls Tryz.prog 18 #[.slice a b.length cap, .string method, .bool ended] W (RespR W (respQ b method ended))) := fun W B => hresp_any b method ended kb cap a W (hb.keep hkb B) (fun q => Nat.lt_of_lt_of_le (hkb q) B.size) (hL.below B).max (by omega)
  have HR2 : Hid (∀ W, Below w.heap.size w W → Calls Tryz.prog 19 #[.slice a b.length cap, .string method, .bool ended] W (RespR W (respQ b method ended))) := fun W B => r8resp_any b method ended kb cap a W (hb.keep hkb B) (fun q => Nat.lt_of_lt_of_le (hkb q) B.size) (by omega)
  clear hb hkb hL hb2 hb3
  generalize respQ b method ended = Q at *
  obtain ⟨m, t, mi, fs, x, n, ok⟩ := Q
  unfold RespR rpV at HR1 HR2
  simp only at HR1 HR2
  generalize b.length = bn at *
  go_enter Tryz.func4, Tryz.ntmps4
  go_wp2_with fail
  refine HA.out.mono ?_
  rintro e w1 ⟨rfl, B1⟩
  clear HA
  go_wp2_with fail
  refine (HR1.out _ B1).mono ?_
  rintro e w2 ⟨fa, ba, fc, bc, rfl, F2, O2, B2⟩
  have C2 := B1.trans (B2.mono B1.size)
  have U3 : Below w2.heap.size w2 (w2.alloc (.cells #[.int .i64 m, .string t, .int .i64 mi, .slice fa fs.length fc, .slice ba x.length bc] 33)) := (Below.refl _ _).alloc (Nat.le_refl _) _
  have C3 := C2.trans (U3.mono C2.size)
  have hr3 := tblk_new w2 (.cells #[.int .i64 m, .string t, .int .i64 mi, .slice fa fs.length fc, .slice ba x.length bc] 33)
  have F3 := F2.keep U3
  have O3 := O2.keep U3
  clear B1 B2 C2 U3 F2 O2 HR1
  go_wp2_with fail
  generalize w2.alloc (.cells #[.int .i64 m, .string t, .int .i64 mi, .slice fa fs.length fc, .slice ba x.length bc] 33) = w3 at *
  generalize w2.heap.size = p1 at *
  refine (HR2.out _ C3).mono ?_
  rintro e w4 ⟨ga, da, gc, dc, rfl, F4, O4, B4⟩
  have U5 : Below w3.heap.size w3 (w4.alloc (.cells #[.int .i64 m, .string t, .int .i64 mi, .slice ga fs.length gc, .slice da x.length dc] 33)) := B4.alloc B4.size _
  have V5 : Below w4.heap.size w4 (w4.alloc (.cells #[.int .i64 m, .string t, .int .i64 mi, .slice ga fs.length gc, .slice da x.length dc] 33)) := (Below.refl _ _).alloc (Nat.le_refl _) _
  have C5 := C3.trans (U5.mono C3.size)
  have hr5 := tblk_below hr3 U5
  have hs5 := tblk_new w4 (.cells #[.int .i64 m, .string t, .int .i64 mi, .slice ga fs.length gc, .slice da x.length dc] 33)
  have HS : Hid (∀ W, W = w4.alloc (.cells #[.int .i64 m, .string t, .int .i64 mi, .slice ga fs.length gc, .slice da x.length dc] 33) → Calls Tryz.prog 20 #[.agg #[.int .i64 m, .string t, .int .i64 mi, .slice fa fs.length fc, .slice ba x.length bc], .agg #[.int .i64 m, .string t, .int .i64 mi, .slice ga fs.length gc, .slice da x.length dc]] W fun e w' => e = .returned (.bool true) ∧ Below W.heap.size W w') := fun W e => by
    subst e
    exact sameresp_q m t mi fs x _ fa ga ba da fc gc bc dc (F3.keep U5) (F4.keep V5) (O3.keep U5) (O4.keep V5)
  obtain ⟨x0, x1, x2, x3, x4⟩ := blk5p hr5
  obtain ⟨y0, y1, y2, y3, y4⟩ := blk5p hs5
  clear B4 U5 V5 F3 O3 F4 O4 hr3 C3 HR2 hr5 hs5
  go_wp2_with fail
  refine (HS.out _ rfl).mono ?_
  rintro e w6 ⟨rfl, B6⟩
  have C6 := C5.trans (B6.mono C5.size)
  clear HS x0 x1 x2 x3 x4 y0 y1 y2 y3 y4
  go_wp2
  go_ret
  exact ⟨rfl, C6⟩
end Go.Proofs.YtkdnckkdofoaoaaGreatDoor

/- Whatever the bytes, the method and whether they have ended, HttpResponses answers true: Response tells what the document tells, line by line; no condition. -/
namespace Go.Proofs.YtkdnckkdofoaoaaGreatDoor.httpResponses
open Go.ChangeShapes Go.WideShapes Go.ChangeAt Go.RowKit
open Go.ChangeMaps (open_string shut_string)
set_option linter.unusedVariables false

theorem own : ownKnob Tryz.prog.godebug = none := by kernel_rfl
theorem laidOut : laidOutB Tryz.prog = true := by kernel_rfl
theorem maxL_of {W : World} (hsh : W.ShapedOpen Tryz.prog) : MaxL W :=
  cell_of_shapedOpen_int (P := Tryz.prog) (g := 1) (t := 3) (zero := #[.int .i64 0]) hsh (of_decide_eq_true (by kernel_rfl)) (by kernel_rfl) rfl (by kernel_rfl) (by kernel_rfl) Tryz.underlying3
noncomputable def laidWorld (os : Os) : World := World.laidAll Tryz.prog os Rows.httpResponsesRow.laid
theorem laid_met (os : Os) : laidMetH Tryz.prog Rows.httpResponsesRow.laid ((laidWorld os).forCall (fun _ _ => 0) ⟨#[], #[.slice none 0 0, .string ⟨#[]⟩, .bool false], []⟩).memory := by
  rw [MakeChecks.laidMetH_plain _ _ _ (by kernel_rfl)]
  exact laidMet_laidAll _ (by kernel_rfl) (by kernel_rfl)
set_option maxRecDepth 100000 in
theorem lifted (os : Os) (started : os.Started) (H : Type) (enc : TypeId × Value → H) (F : Stop.Interp) :
    ReturnsInHanded {} Tryz.checked os 4 .any ((OpenSpec.ofChange Rows.httpResponsesSpec).preRow enc Tryz.prog Tryz.f4 Rows.httpResponsesRow.domain false Rows.httpResponsesRow.laid) (((OpenSpec.ofChange Rows.httpResponsesSpec).at F).post enc Tryz.prog Tryz.f4 false true false false) := by
  obtain ⟨places, hx⟩ := (⟨[], by kernel_rfl⟩ : ∃ places, DataW.whole enc Tryz.prog ((laidWorld os).forCall (fun _ _ => 0) ⟨#[], #[.slice none 0 0, .string ⟨#[]⟩, .bool false], []⟩).memory Tryz.f4.params.toList Rows.httpResponsesSpec.vars false (#[.slice none 0 0, .string ⟨#[]⟩, .bool false] : Array Value).toList 8 = some ([.nil, .lit (.string []), .lit (.bool false)], [], places))
  refine returnsInHanded_of_row (C := Tryz.checked) (s := OpenSpec.ofChange Rows.httpResponsesSpec) own started (by kernel_rfl) Tryz.func4
    (witness_row_atRef (enc := enc) (C := Tryz.checked) false (laidWorld os) #[.slice none 0 0, .string ⟨#[]⟩, .bool false] rfl (by kernel_rfl) (by kernel_rfl) (by kernel_rfl)
      (OpenSpec.preRow_of_cond 8 hx (by kernel_rfl) (fun k hk => by cases hk) (by kernel_rfl) (laid_met os))) ?_
  intro W base args ds gs before hval0 hW _ hcond hsz hlaid hsh _
  have hM := maxL_of hsh
  clear hsh
  have hval : ∀ (j : Nat) t v, Tryz.f4.params[j]? = some t → args[j]? = some v → Value.okWide Tryz.prog W .any base t v := hval0
  have hW' := hW
  obtain ⟨p, q, hA0, hV, rfl, hfz, hnd⟩ := hW
  have hA : DataW.TrodAll enc Tryz.prog W 0 (fun _ => true) true Tryz.f4.params.toList args.toList ds p := hA0
  rw [Tryz.params4] at hA hval
  obtain ⟨v0, vs0, d0, ds0, p0, q0, hargs, rfl, rfl, h0, r0⟩ := trodAll_cons hA
  obtain ⟨v1, vs1, d1, ds1, p1, q1, rfl, rfl, rfl, h1, r1⟩ := trodAll_cons r0
  obtain ⟨v2, vs2, d2, ds2, p2, q2, rfl, rfl, rfl, h2, r2⟩ := trodAll_cons r1
  obtain ⟨rfl, rfl, rfl⟩ := trodAll_nil r2
  obtain rfl : args = #[v0, v1, v2] := by cases args; simp_all
  obtain ⟨rfl, rfl⟩ := trodVars_none hV
  obtain ⟨a0, len0, cap0, rfl⟩ := okWide_slice Tryz.underlying22 (hval 0 22 v0 rfl rfl)
  have k0 := h0
  have lt0 : ∀ x ∈ p0, x.block < W.heap.size := by obtain ⟨m, hm⟩ := k0; exact DataW.trod_lt m _ _ _ hm
  obtain ⟨kb0, b0, w0, hk0, hn0⟩ := open_bytes h0
  obtain ⟨a1, rfl, rfl, rfl, w1⟩ := open_string Tryz.underlying9 (hval 1 9 v1 rfl rfl) h1
  obtain ⟨a2, rfl, rfl, rfl⟩ := open_bool Tryz.underlying4 (hval 2 4 v2 rfl rfl) h2
  clear hA0 hval0
  have hP := pow_of (l := Rows.httpResponsesRow.laid) (by kernel_rfl) hlaid
  refine (responses8_walk kb0 len0 cap0 a0 b0 a1 a2 W w0 hk0 ⟨hM, hP⟩).mono fun e W' ⟨he, bel⟩ => ?_
  subst he
  exact ⟨_, rfl, _, _, _, [], _, [], hW', trodAll_mk1 (shut_bool Tryz.underlying4 _), (trodAll_cons_mk (Below.trod laidOut (by kernel_rfl) (of_decide_eq_true (by kernel_rfl)) k0 bel lt0) (trodAll_cons_mk (shut_string Tryz.underlying9 w1) (trodAll_cons_mk (shut_bool Tryz.underlying4 a2) trodAll_mk0))), rfl, bel.frame _, fun h => by cases h⟩

theorem over : Rows.HttpResponsesSaid :=
  OpenClaim.holds_of_cond 4 Tryz.f4 rfl rfl rfl rfl rfl rfl rfl ⟨rfl, rfl, rfl, rfl, rfl⟩ rfl rfl rfl rfl rfl (by kernel_rfl) Tryz.func4 (by kernel_rfl)
    (of_decide_eq_true (by kernel_rfl)) (by unfold Func.isWrapper; first | (rw [if_pos (by decide +kernel)]; kernel_rfl) | (rw [if_neg (by decide +kernel)]; exact ⟨rfl, rfl⟩))
    (fun os started H enc _ F => by rw [OpenClaim.pre_eq_preRow]; exact lifted os started H enc F)

end Go.Proofs.YtkdnckkdofoaoaaGreatDoor.httpResponses
namespace Go.Proofs.YtkdnckkdofoaoaaGreatDoor
/-- The statement: the tied card. -/
theorem httpResponses_holds : Rows.HttpResponsesCardSaid :=
  Claim7.holds_tied_plain_at .later [] _ _ _ _
    httpResponses.over (fun _ h => by cases h) (by kernel_rfl) (fun _ h => by cases h) httpResponses_row_tie rfl ⟨rfl, rfl⟩ (by kernel_rfl) rfl
    (fun f fn hf hfn => by
      obtain rfl : f = 4 := Option.some.inj ((show Tryz.prog.funcNamed "tollbar/tollbarlaw08.HttpResponses" = some 4 by kernel_rfl).symm.trans hf) |>.symm
      obtain rfl : fn = Tryz.f4 := (Option.some.inj (Tryz.func4.symm.trans hfn)).symm
      exact ⟨by kernel_rfl, fun j t ht => by
        rw [Tryz.params4] at ht
        have hm : t ∈ [22, 9, 4] := by simpa using Array.mem_of_getElem? ht
        have hall : ([22, 9, 4].all fun u => !Tryz.prog.wantsStandIn u) = true := by kernel_rfl
        exact (show Tryz.prog.wantsStandIn t = false by simpa using List.all_eq_true.1 hall t hm)⟩)
    (by kernel_rfl)
#print axioms httpResponses_holds
end Go.Proofs.YtkdnckkdofoaoaaGreatDoor
