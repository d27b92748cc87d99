/- The code's Status and the reference's are the same. -/
import Derived.Test.YthbjdbookiejeacGreatDoorLrC
namespace Go.Proofs.YthbjdbookiejeacGreatDoor
open Go.RowKit
set_option linter.unusedVariables false

theorem ix_hit (l : List UInt8) : Lib.index (32 :: l) [32] = ((0 : Nat) : Int) := by simp [Lib.index, List.isPrefixOf]
theorem ix_ne {b : UInt8} {l : List UInt8} {k : Nat} (h : b ≠ 32) (hk : Lib.index l [32] = (k : Int)) : Lib.index (b :: l) [32] = ((k + 1 : Nat) : Int) := by
  have hp : ([32] : List UInt8).isPrefixOf (b :: l) = false := by simp [List.isPrefixOf, Ne.symm h]
  rw [Lib.index, hp, hk, if_neg (by decide), if_neg (by simp)]
  omega
theorem ix_no {b : UInt8} {l : List UInt8} (h : b ≠ 32) (hk : Lib.index l [32] = -1) : Lib.index (b :: l) [32] = -1 := by
  have hp : ([32] : List UInt8).isPrefixOf (b :: l) = false := by simp [List.isPrefixOf, Ne.symm h]
  rw [Lib.index, hp, hk]
  simp
theorem ix_nil : Lib.index ([] : List UInt8) [32] = -1 := by simp [Lib.index]
theorem lcut_hit {l : List UInt8} {k : Nat} (h : Lib.index l [32] = (k : Int)) : Lib.cut l [32] = (l.take k, l.drop (k + 1), true) := by
  unfold Lib.cut
  rw [h, if_pos (by omega)]
  rfl
theorem cut_no {l : List UInt8} (h : Lib.index l [32] = -1) : Lib.cut l [32] = (l, [], false) := by
  unfold Lib.cut
  rw [h]
  rfl
def cod3 (x y z : UInt8) : Int := 100 * ((x.toNat : Int) - 48) + 10 * ((y.toNat : Int) - 48) + ((z.toNat : Int) - 48)
def stC (q x y z : UInt8) (t : List UInt8) : St := if 100 ≤ cod3 x y z ∧ cod3 x y z ≤ 599 ∧ rsnP (tailR t) = true then ⟨cod3 x y z, tailR t, (q.toNat : Int) - 48, true⟩ else noS
theorem cod_calc {x y z : UInt8} (hx : dgN x < 10) (hy : dgN y < 10) (hz : dgN z < 10) : codP ⟨#[x, y, z]⟩ = if 100 ≤ cod3 x y z ∧ cod3 x y z ≤ 599 then (cod3 x y z, true) else (0, false) := by
  have hv : vN 10 [x, y, z] = some ((dgN x * 10 + dgN y) * 10 + dgN z) := by simp [vN, stepV, hx, hy, hz]
  have hnv : numV 10 18 ⟨#[x, y, z]⟩ = vN 10 [x, y, z] := rfl
  have hb : numB 10 18 ⟨#[x, y, z]⟩ = true := by unfold numB; rw [hnv, hv]; rfl
  have hi : numI 10 18 ⟨#[x, y, z]⟩ = cod3 x y z := by
    unfold numI cod3
    rw [hnv, hv, Option.getD_some, ← dg_val hx, ← dg_val hy, ← dg_val hz]
    omega
  unfold codP
  rw [hb, hi]
  have e : (true = true ∧ (⟨#[x, y, z]⟩ : ByteArray).size = 3 ∧ 100 ≤ cod3 x y z ∧ cod3 x y z ≤ 599) ↔ (100 ≤ cod3 x y z ∧ cod3 x y z ≤ 599) := ⟨fun k => k.2.2, fun k => ⟨rfl, rfl, k⟩⟩
  by_cases c : 100 ≤ cod3 x y z ∧ cod3 x y z ≤ 599
  · rw [if_pos (e.2 c), if_pos c]
  · rw [if_neg (fun k => c (e.1 k)), if_neg c]
theorem min_calc {q : UInt8} (h : q = 48 ∨ q = 49) : minP ⟨#[72, 84, 84, 80, 47, 49, 46, q]⟩ = ((q.toNat : Int) - 48, true) := by
  rcases h with e | e
  · subst e; kernel_rfl
  · subst e; kernel_rfl
theorem sta_calc {s : ByteArray} {q x y z : UInt8} {t : List UInt8} (F : Fm s q x y z t) : statP s = stC q x y z t := by
  have hq : q ≠ 32 := by rcases F.hq with e | e <;> subst e <;> decide
  have nx := dg_ne F.hx
  have ny := dg_ne F.hy
  have nz := dg_ne F.hz
  have hl : s.data.toList = 72 :: 84 :: 84 :: 80 :: 47 :: 49 :: 46 :: q :: 32 :: x :: y :: z :: t := by rw [F.eq]; rfl
  have i1 : Lib.index s.data.toList [32] = ((8 : Nat) : Int) := by
    rw [hl]
    exact ix_ne (by decide) (ix_ne (by decide) (ix_ne (by decide) (ix_ne (by decide) (ix_ne (by decide) (ix_ne (by decide) (ix_ne (by decide) (ix_ne hq (ix_hit _))))))))
  have b1 : bcut s = (⟨#[72, 84, 84, 80, 47, 49, 46, q]⟩, ⟨(x :: y :: z :: t).toArray⟩, true) := by
    unfold bcut
    rw [lcut_hit i1, hl]
    rfl
  have b2 : (bcut ⟨(x :: y :: z :: t).toArray⟩).1 = ⟨#[x, y, z]⟩ ∧ (bcut ⟨(x :: y :: z :: t).toArray⟩).2.1 = tailR t := by
    rcases F.ht with e | ⟨r, e⟩
    · subst e
      have i2 : Lib.index [x, y, z] [32] = -1 := ix_no nx (ix_no ny (ix_no nz ix_nil))
      unfold bcut
      show (⟨(Lib.cut [x, y, z] [32]).1.toArray⟩ : ByteArray) = _ ∧ (⟨(Lib.cut [x, y, z] [32]).2.1.toArray⟩ : ByteArray) = _
      rw [cut_no i2]
      exact ⟨rfl, rfl⟩
    · subst e
      have i2 : Lib.index (x :: y :: z :: 32 :: r) [32] = ((3 : Nat) : Int) := ix_ne nx (ix_ne ny (ix_ne nz (ix_hit _)))
      unfold bcut
      show (⟨(Lib.cut (x :: y :: z :: 32 :: r) [32]).1.toArray⟩ : ByteArray) = _ ∧ (⟨(Lib.cut (x :: y :: z :: 32 :: r) [32]).2.1.toArray⟩ : ByteArray) = _
      rw [lcut_hit i2]
      exact ⟨rfl, rfl⟩
  unfold statP
  rw [b1]
  simp only
  rw [b2.1, b2.2, min_calc F.hq, cod_calc F.hx F.hy F.hz]
  unfold stC noS
  by_cases c : 100 ≤ cod3 x y z ∧ cod3 x y z ≤ 599
  · rw [if_pos c]
    simp only
    by_cases r : rsnP (tailR t) = true
    · rw [if_pos ⟨trivial, trivial, r⟩, if_pos ⟨c.1, c.2, r⟩]
    · rw [if_neg (fun k => r k.2.2), if_neg (fun k => r k.2.2)]
  · rw [if_neg c, if_neg (fun k => by cases k.2.1), if_neg (fun k => c ⟨k.1, k.2.1⟩)]
theorem ref_calc {s : ByteArray} {q x y z : UInt8} {t : List UInt8} (F : Fm s q x y z t) : refS s = stC q x y z t := by
  have hl : s.data.toList = 72 :: 84 :: 84 :: 80 :: 47 :: 49 :: 46 :: q :: 32 :: x :: y :: z :: t := by rw [F.eq]; rfl
  have hsz : s.size = 12 + t.length := by
    show s.data.toList.length = _
    rw [hl]
    simp
    omega
  have e8 : at8 s 8 = 32 := by unfold at8; rw [hl]; rfl
  have e9 : at8 s 9 = (x.toNat : Int) := by unfold at8; rw [hl]; rfl
  have e10 : at8 s 10 = (y.toNat : Int) := by unfold at8; rw [hl]; rfl
  have e11 : at8 s 11 = (z.toNat : Int) := by unfold at8; rw [hl]; rfl
  have hv : rverL (s.extract 0 8).data.toList = (1, (q.toNat : Int) - 48, true) := by
    rw [lext_data, hl]
    show rverL [72, 84, 84, 80, 47, 49, 46, q] = _
    rcases F.hq with e | e <;> subst e <;> kernel_rfl
  have hqm : ¬ 1 < (q.toNat : Int) - 48 := by rcases F.hq with e | e <;> subst e <;> decide
  have er : rsn s = tailR t := by
    unfold rsn tailR
    rcases F.ht with e | ⟨r, e⟩
    · subst e
      rw [if_neg (by simp at hsz; omega)]
      rfl
    · subst e
      rw [if_pos (by simp at hsz; omega)]
      refine ba_eq ?_
      rw [lext_data, List.take_of_length_le (show s.data.toList.length ≤ s.size from Nat.le_refl _), hl]
      rfl
  have e12 : ¬ (12 < s.size ∧ ¬ at8 s 12 = 32) := by
    rcases F.ht with e | ⟨r, e⟩
    · subst e
      simp at hsz
      omega
    · subst e
      have : at8 s 12 = 32 := by unfold at8; rw [hl]; rfl
      exact fun k => k.2 this
  have ec : codeR s = cod3 x y z := by unfold codeR cod3; rw [e9, e10, e11]
  unfold refS
  rw [if_neg (by omega), if_neg (fun k => k e8), hv]
  simp only
  rw [if_neg (by decide), if_neg (fun k => k trivial), if_neg hqm, e9, e10, e11, span_dg.2 F.hx, span_dg.2 F.hy, span_dg.2 F.hz, if_neg (by decide), if_neg (by decide), if_neg (by decide), if_neg e12, ec, er]
  unfold stC
  by_cases c1 : cod3 x y z < 100
  · rw [if_pos c1, if_neg (fun k => by omega)]
  · rw [if_neg c1]
    by_cases c2 : 599 < cod3 x y z
    · rw [if_pos c2, if_neg (fun k => by omega)]
    · rw [if_neg c2]
      unfold rsnP
      cases hv : allB valP (tailR t).data.toList
      · rw [if_pos rfl, if_neg (fun k => by simp at k)]
      · rw [if_neg (by decide)]
        by_cases c3 : 100 < (tailR t).size
        · rw [if_pos c3, if_neg (fun k => by have := k.2.2; simp at this; omega)]
        · rw [if_neg c3, if_pos ⟨by omega, by omega, by simp; omega⟩]
theorem sta_ref (s : ByteArray) : statP s = refS s := by
  cases h1 : (statP s).ok
  · cases h2 : (refS s).ok
    · rw [ref_no h2]
      unfold statP at h1 ⊢
      split at h1
      · cases h1
      · rename_i k
        rw [if_neg k]
        rfl
    · obtain ⟨q, x, y, z, t, F⟩ := ref_form h2
      rw [sta_calc F, ref_calc F]
  · obtain ⟨q, x, y, z, t, F⟩ := sta_form h1
    rw [sta_calc F, ref_calc F]
end Go.Proofs.YthbjdbookiejeacGreatDoor
