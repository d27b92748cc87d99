/- What is read of a line is told as it was: plain facts. -/
import Derived.Test.YthbjdbookiejeabGreatDoorLnH
namespace Go.Proofs.YthbjdbookiejeabGreatDoor
open Go.RowKit
set_option linter.unusedVariables false

theorem ba_eq {a b : ByteArray} (h : a.data.toList = b.data.toList) : a = b := by
  obtain ⟨⟨x⟩⟩ := a
  obtain ⟨⟨y⟩⟩ := b
  have : x = y := h
  rw [this]
theorem eqS_eq {a b : ByteArray} (h : eqS a b = true) : a = b := by
  unfold eqS at h
  rw [ByteArray.toList_eq, ByteArray.toList_eq] at h
  exact ba_eq (eq_of_beq h)
theorem idx32 : ∀ l : List UInt8, Lib.index l [32] = -1 ∨ ∃ i : Nat, Lib.index l [32] = i ∧ l = l.take i ++ 32 :: l.drop (i + 1)
  | [] => Or.inl (by simp [Lib.index])
  | b :: l => by
    by_cases hb : b = 32
    · subst hb
      exact Or.inr ⟨0, by simp [Lib.index, List.isPrefixOf], by simp⟩
    · have hp : ([32] : List UInt8).isPrefixOf (b :: l) = false := by simp [List.isPrefixOf, Ne.symm hb]
      rcases idx32 l with h | ⟨i, h, e⟩
      · left
        rw [Lib.index, hp, h]
        simp
      · right
        refine ⟨i + 1, ?_, ?_⟩
        · rw [Lib.index, hp, h, if_neg (by decide), if_neg (by simp)]
          omega
        · rw [List.take_succ_cons, List.drop_succ_cons, List.cons_append, ← e]
def joinL : List (List UInt8) → List UInt8
  | [] => []
  | [x] => x
  | x :: y :: t => x ++ 32 :: joinL (y :: t)
theorem split_ne (sep : List UInt8) (k : Nat) (l : List UInt8) : ∃ a t, Lib.splitK sep 0 k l = a :: t := by
  cases k with
  | zero => exact ⟨l, [], rfl⟩
  | succ k =>
    unfold Lib.splitK
    split
    · exact ⟨_, _, rfl⟩
    · exact ⟨_, _, rfl⟩
theorem split_join : ∀ (k : Nat) (l : List UInt8), joinL (Lib.splitK [32] 0 k l) = l
  | 0, l => rfl
  | k + 1, l => by
    rcases idx32 l with h | ⟨i, h, e⟩
    · rw [Lib.splitK, h]
      rfl
    · have hne : ¬ (((i : Int) == -1) = true) := by simp
      rw [Lib.splitK, h, if_neg hne]
      obtain ⟨a, t, hs⟩ := split_ne [32] k (l.drop (i + 1))
      have ih := split_join k (l.drop (i + 1))
      have e1 : ((i : Int).toNat + ([32] : List UInt8).length) = i + 1 := rfl
      have e0 : ((i : Int).toNat + 0) = i := rfl
      rw [e1, e0, hs, joinL, ← hs, ih, ← e]
theorem part_join {s p0 p1 p2 : ByteArray} (h : part4 s = [p0, p1, p2]) : s.data.toList = p0.data.toList ++ 32 :: (p1.data.toList ++ 32 :: p2.data.toList) := by
  have k := Lib.splitB_data ⟨#[32]⟩ 0 (min 4 (s.size + 1) - 1) s
  have j := split_join (min 4 (s.size + 1) - 1) s.data.toList
  unfold part4 at h
  rw [h] at k
  rw [← show Lib.splitK (⟨#[32]⟩ : ByteArray).data.toList 0 (min 4 (s.size + 1) - 1) s.data.toList = Lib.splitK [32] 0 (min 4 (s.size + 1) - 1) s.data.toList from rfl, ← k] at j
  exact j.symm

theorem ver0 : verT 0 = v10 := by kernel_rfl
theorem ver1 : verT 1 = v11 := by kernel_rfl
theorem min_ver {p : ByteArray} (h : (minP p).2 = true) : verT (minP p).1 = p ∧ ((minP p).1 = 0 ∨ (minP p).1 = 1) := by
  unfold minP at h ⊢
  split
  · rename_i k
    exact ⟨by rw [eqS_eq k]; exact ver0, Or.inl rfl⟩
  · rename_i k0
    split
    · rename_i k
      exact ⟨by rw [eqS_eq k]; exact ver1, Or.inr rfl⟩
    · rename_i k
      rw [if_neg k0, if_neg k] at h
      cases h

/-- A request's line that is read is told as it was. -/
theorem req_back {s : ByteArray} (h : (rqP s).code = 0) : reqT (rqP s).method (rqP s).target (verT (rqP s).minor) = s ++ ⟨#[13, 10]⟩ ∧ ((rqP s).minor = 0 ∨ (rqP s).minor = 1) ∧ (rqP s).method.size ≤ s.size ∧ (rqP s).target.size ≤ s.size := by
  unfold rqP at h ⊢
  split at h
  · rename_i p0 p1 p2 hp
    have q0 : p0.size ≤ s.size := splitB_sizes _ _ _ p0 (show p0 ∈ part4 s by rw [hp]; simp)
    have q1 : p1.size ≤ s.size := splitB_sizes _ _ _ p1 (show p1 ∈ part4 s by rw [hp]; simp)
    unfold rq3 at h ⊢
    split at h
    · cases h
    · rename_i k1
      split at h
      · cases h
      · rename_i k2
        split at h
        · cases h
        · rename_i k3
          split at h
          · cases h
          · rename_i k4
            split at h
            · cases h
            · rename_i k5
              rw [if_neg k1, if_neg k2, if_neg k3, if_neg k4, if_neg k5]
              have hm : (minP p2).2 = true := by
                cases e : (minP p2).2
                · exact absurd e k5
                · rfl
              obtain ⟨hv, hc⟩ := min_ver hm
              refine ⟨?_, hc, q0, q1⟩
              simp only
              rw [hv]
              refine ba_eq ?_
              unfold reqT
              simp only [ByteArray.data_append, Array.toList_append]
              rw [part_join hp]
              simp
  · cases h

theorem itoa3 : ∀ a b c : Fin 10, 1 ≤ a.val → Lib.itoa (((a.val * 10 + b.val) * 10 + c.val : Nat) : Int) = [UInt8.ofNat (48 + a.val), UInt8.ofNat (48 + b.val), UInt8.ofNat (48 + c.val)] := by decide +kernel
theorem dig_back {b : UInt8} (h : dgN b < 10) : b = UInt8.ofNat (48 + dgN b) ∧ 48 ≤ b.toNat := by
  have k := dgN_cast b
  have hb : 48 ≤ b.toNat ∧ dgN b = b.toNat - 48 := by
    unfold dgI at k
    split at k
    · omega
    · split at k
      · omega
      · split at k
        · omega
        · omega
  refine ⟨?_, hb.1⟩
  rw [hb.2, show 48 + (b.toNat - 48) = b.toNat by omega]
  exact (UInt8.ofNat_toNat).symm
theorem cod_back {d : ByteArray} (h : (codP d).2 = true) : itoaS (codP d).1 = d ∧ d.size = 3 ∧ hasP d ⟨#[45]⟩ = false ∧ 100 ≤ (codP d).1 ∧ (codP d).1 ≤ 599 := by
  unfold codP at h ⊢
  split at h
  · rename_i k
    rw [if_pos k]
    obtain ⟨kb, ks, kl, kh⟩ := k
    obtain ⟨x, y, z, rfl⟩ := three_of ks
    have hnv : numV 10 18 ⟨#[x, y, z]⟩ = vN 10 [x, y, z] := rfl
    unfold numB at kb
    unfold numI at kl kh ⊢
    rw [hnv] at kb kl kh ⊢
    have hx : dgN x < 10 := by
      by_cases c : dgN x < 10
      · exact c
      · simp [vN, stepV, c] at kb
    have hy : dgN y < 10 := by
      by_cases c : dgN y < 10
      · exact c
      · simp [vN, stepV, c, hx] at kb
    have hz : dgN z < 10 := by
      by_cases c : dgN z < 10
      · exact c
      · simp [vN, stepV, c, hx, hy] at kb
    have hv : vN 10 [x, y, z] = some ((dgN x * 10 + dgN y) * 10 + dgN z) := by simp [vN, stepV, hx, hy, hz]
    rw [hv] at kl kh ⊢
    simp only [Option.getD_some] at kl kh ⊢
    have h1 : 1 ≤ dgN x := by omega
    have e := itoa3 ⟨dgN x, hx⟩ ⟨dgN y, hy⟩ ⟨dgN z, hz⟩ h1
    simp only at e
    rw [← (dig_back hx).1, ← (dig_back hy).1, ← (dig_back hz).1] at e
    refine ⟨?_, rfl, ?_, kl, kh⟩
    · unfold itoaS
      rw [e]
    · have := (dig_back hx).2
      have hne : x ≠ 45 := by
        intro q
        rw [q] at this
        exact absurd this (by decide)
      unfold hasP
      have e1 : ((⟨#[x, y, z]⟩ : ByteArray).extract 0 1).toList = [x] := by rw [ByteArray.toList_eq]; rfl
      have e2 : (⟨#[45]⟩ : ByteArray).toList = [45] := lit_list [45]
      show (_ && (((⟨#[x, y, z]⟩ : ByteArray).extract 0 1).toList == (⟨#[45]⟩ : ByteArray).toList)) = false
      rw [e1, e2]
      simp [hne]
  · cases h

theorem bcut_miss {x : ByteArray} (q : Lib.index x.data.toList [32] = -1) : (bcut x).2.1 = ⟨#[]⟩ := by
  show (⟨(Lib.cut x.data.toList [32]).2.1.toArray⟩ : ByteArray) = _
  unfold Lib.cut
  rw [q]
  rfl
/-- A status line that is read is told as it was, or with a blank behind. -/
theorem sta_back {s : ByteArray} (h : (statP s).ok = true) : ∃ c m r, statP s = ⟨c, r, m, true⟩ ∧ (staT (verT m) (itoaS c) r = s ++ ⟨#[13, 10]⟩ ∨ (staT (verT m) (itoaS c) r = s ++ ⟨#[32, 13, 10]⟩ ∧ r = ⟨#[]⟩)) ∧ (m = 0 ∨ m = 1) ∧ (itoaS c).size = 3 ∧ hasP (itoaS c) ⟨#[45]⟩ = false ∧ 100 ≤ c ∧ c ≤ 599 ∧ r.size ≤ s.size := by
  have l1 := bcut_len s
  have l2 := bcut_len (bcut s).2.1
  unfold statP at h ⊢
  split at h
  · rename_i k
    rw [if_pos k]
    obtain ⟨k1, k2, k3⟩ := k
    obtain ⟨hv, hm⟩ := min_ver k1
    obtain ⟨hi, h3, hp, hlo, hhi⟩ := cod_back k2
    refine ⟨_, _, _, rfl, ?_, hm, by rw [hi]; exact h3, by rw [hi]; exact hp, hlo, hhi, by omega⟩
    rw [hv, hi]
    have j1 : s.data.toList = (bcut s).1.data.toList ++ 32 :: (bcut s).2.1.data.toList := by
      rcases idx32 s.data.toList with q | ⟨i, q, e⟩
      · exfalso
        have z : (bcut s).2.1 = ⟨#[]⟩ := by unfold bcut Lib.cut; rw [q]; rfl
        rw [z] at h3
        exact absurd h3 (by decide)
      · show s.data.toList = (Lib.cut s.data.toList [32]).1 ++ 32 :: (Lib.cut s.data.toList [32]).2.1
        unfold Lib.cut
        rw [q, if_pos (by omega)]
        exact e
    rcases idx32 (bcut s).2.1.data.toList with q | ⟨i, q, e⟩
    · right
      have z : (bcut (bcut s).2.1).2.1 = ⟨#[]⟩ := bcut_miss q
      have z2 : (bcut (bcut s).2.1).1.data.toList = (bcut s).2.1.data.toList := by
        show (Lib.cut (bcut s).2.1.data.toList [32]).1 = _
        unfold Lib.cut
        rw [q]
        rfl
      refine ⟨?_, z⟩
      refine ba_eq ?_
      unfold staT
      rw [z]
      simp only [ByteArray.data_append, Array.toList_append]
      rw [z2, j1]
      simp
    · left
      have z2 : (bcut s).2.1.data.toList = (bcut (bcut s).2.1).1.data.toList ++ 32 :: (bcut (bcut s).2.1).2.1.data.toList := by
        show (bcut s).2.1.data.toList = (Lib.cut (bcut s).2.1.data.toList [32]).1 ++ 32 :: (Lib.cut (bcut s).2.1.data.toList [32]).2.1
        unfold Lib.cut
        rw [q, if_pos (by omega)]
        exact e
      refine ba_eq ?_
      unfold staT
      simp only [ByteArray.data_append, Array.toList_append]
      rw [j1, z2]
      simp
  · cases h
end Go.Proofs.YthbjdbookiejeabGreatDoor
