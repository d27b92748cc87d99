/- Texts that the proof leans on, one behind the other: LbA LrA LqA LqB LqC LqD -/
import Derived.Test.YtkdnckkdofoaoaaGreatDoorKf
import Derived.Test.YtkdnckkdofoaoaaGreatDoorKm
import Derived.Test.YtkdnckkdofoaoaaGreatDoorKd
import Derived.Deep.RegionHeld3
/- What is read of a line is told as it was: plain facts. -/
namespace Go.Proofs.YtkdnckkdofoaoaaGreatDoor
open Go.RowKit
set_option linter.unusedVariables false

theorem ba_eq {a b : ByteArray} (h : a.data.toList = b.data.toList) : a = b := by
  obtain ⟨⟨x⟩⟩ := a
  obtain ⟨⟨y⟩⟩ := b
  have : x = y := h
  rw [this]
theorem eqS_eq {a b : ByteArray} (h : eqS a b = true) : a = b := by
  unfold eqS at h
  rw [ByteArray.toList_eq, ByteArray.toList_eq] at h
  exact ba_eq (eq_of_beq h)
theorem idx32 : ∀ l : List UInt8, Lib.index l [32] = -1 ∨ ∃ i : Nat, Lib.index l [32] = i ∧ l = l.take i ++ 32 :: l.drop (i + 1)
  | [] => Or.inl (by simp [Lib.index])
  | b :: l => by
    by_cases hb : b = 32
    · subst hb
      exact Or.inr ⟨0, by simp [Lib.index, List.isPrefixOf], by simp⟩
    · have hp : ([32] : List UInt8).isPrefixOf (b :: l) = false := by simp [List.isPrefixOf, Ne.symm hb]
      rcases idx32 l with h | ⟨i, h, e⟩
      · left
        rw [Lib.index, hp, h]
        simp
      · right
        refine ⟨i + 1, ?_, ?_⟩
        · rw [Lib.index, hp, h, if_neg (by decide), if_neg (by simp)]
          omega
        · rw [List.take_succ_cons, List.drop_succ_cons, List.cons_append, ← e]
def joinL : List (List UInt8) → List UInt8
  | [] => []
  | [x] => x
  | x :: y :: t => x ++ 32 :: joinL (y :: t)
theorem split_ne (sep : List UInt8) (k : Nat) (l : List UInt8) : ∃ a t, Lib.splitK sep 0 k l = a :: t := by
  cases k with
  | zero => exact ⟨l, [], rfl⟩
  | succ k =>
    unfold Lib.splitK
    split
    · exact ⟨_, _, rfl⟩
    · exact ⟨_, _, rfl⟩
theorem split_join : ∀ (k : Nat) (l : List UInt8), joinL (Lib.splitK [32] 0 k l) = l
  | 0, l => rfl
  | k + 1, l => by
    rcases idx32 l with h | ⟨i, h, e⟩
    · rw [Lib.splitK, h]
      rfl
    · have hne : ¬ (((i : Int) == -1) = true) := by simp
      rw [Lib.splitK, h, if_neg hne]
      obtain ⟨a, t, hs⟩ := split_ne [32] k (l.drop (i + 1))
      have ih := split_join k (l.drop (i + 1))
      have e1 : ((i : Int).toNat + ([32] : List UInt8).length) = i + 1 := rfl
      have e0 : ((i : Int).toNat + 0) = i := rfl
      rw [e1, e0, hs, joinL, ← hs, ih, ← e]
theorem part_join {s p0 p1 p2 : ByteArray} (h : part4 s = [p0, p1, p2]) : s.data.toList = p0.data.toList ++ 32 :: (p1.data.toList ++ 32 :: p2.data.toList) := by
  have k := Lib.splitB_data ⟨#[32]⟩ 0 (min 4 (s.size + 1) - 1) s
  have j := split_join (min 4 (s.size + 1) - 1) s.data.toList
  unfold part4 at h
  rw [h] at k
  rw [← show Lib.splitK (⟨#[32]⟩ : ByteArray).data.toList 0 (min 4 (s.size + 1) - 1) s.data.toList = Lib.splitK [32] 0 (min 4 (s.size + 1) - 1) s.data.toList from rfl, ← k] at j
  exact j.symm

theorem ver0 : verT 0 = v10 := by kernel_rfl
theorem ver1 : verT 1 = v11 := by kernel_rfl
theorem min_ver {p : ByteArray} (h : (minP p).2 = true) : verT (minP p).1 = p ∧ ((minP p).1 = 0 ∨ (minP p).1 = 1) := by
  unfold minP at h ⊢
  split
  · rename_i k
    exact ⟨by rw [eqS_eq k]; exact ver0, Or.inl rfl⟩
  · rename_i k0
    split
    · rename_i k
      exact ⟨by rw [eqS_eq k]; exact ver1, Or.inr rfl⟩
    · rename_i k
      rw [if_neg k0, if_neg k] at h
      cases h

/-- A request's line that is read is told as it was. -/
theorem req_back {s : ByteArray} (h : (rqP s).code = 0) : reqT (rqP s).method (rqP s).target (verT (rqP s).minor) = s ++ ⟨#[13, 10]⟩ ∧ ((rqP s).minor = 0 ∨ (rqP s).minor = 1) ∧ (rqP s).method.size ≤ s.size ∧ (rqP s).target.size ≤ s.size := by
  unfold rqP at h ⊢
  split at h
  · rename_i p0 p1 p2 hp
    have q0 : p0.size ≤ s.size := splitB_sizes _ _ _ p0 (show p0 ∈ part4 s by rw [hp]; simp)
    have q1 : p1.size ≤ s.size := splitB_sizes _ _ _ p1 (show p1 ∈ part4 s by rw [hp]; simp)
    unfold rq3 at h ⊢
    split at h
    · cases h
    · rename_i k1
      split at h
      · cases h
      · rename_i k2
        split at h
        · cases h
        · rename_i k3
          split at h
          · cases h
          · rename_i k4
            split at h
            · cases h
            · rename_i k5
              rw [if_neg k1, if_neg k2, if_neg k3, if_neg k4, if_neg k5]
              have hm : (minP p2).2 = true := by
                cases e : (minP p2).2
                · exact absurd e k5
                · rfl
              obtain ⟨hv, hc⟩ := min_ver hm
              refine ⟨?_, hc, q0, q1⟩
              simp only
              rw [hv]
              refine ba_eq ?_
              unfold reqT
              simp only [ByteArray.data_append, Array.toList_append]
              rw [part_join hp]
              simp
  · cases h

theorem itoa3 : ∀ a b c : Fin 10, 1 ≤ a.val → Lib.itoa (((a.val * 10 + b.val) * 10 + c.val : Nat) : Int) = [UInt8.ofNat (48 + a.val), UInt8.ofNat (48 + b.val), UInt8.ofNat (48 + c.val)] := by decide +kernel
theorem dig_back {b : UInt8} (h : dgN b < 10) : b = UInt8.ofNat (48 + dgN b) ∧ 48 ≤ b.toNat := by
  have k := dgN_cast b
  have hb : 48 ≤ b.toNat ∧ dgN b = b.toNat - 48 := by
    unfold dgI at k
    split at k
    · omega
    · split at k
      · omega
      · split at k
        · omega
        · omega
  refine ⟨?_, hb.1⟩
  rw [hb.2, show 48 + (b.toNat - 48) = b.toNat by omega]
  exact (UInt8.ofNat_toNat).symm
theorem cod_back {d : ByteArray} (h : (codP d).2 = true) : itoaS (codP d).1 = d ∧ d.size = 3 ∧ hasP d ⟨#[45]⟩ = false ∧ 100 ≤ (codP d).1 ∧ (codP d).1 ≤ 599 := by
  unfold codP at h ⊢
  split at h
  · rename_i k
    rw [if_pos k]
    obtain ⟨kb, ks, kl, kh⟩ := k
    obtain ⟨x, y, z, rfl⟩ := three_of ks
    have hnv : numV 10 18 ⟨#[x, y, z]⟩ = vN 10 [x, y, z] := rfl
    unfold numB at kb
    unfold numI at kl kh ⊢
    rw [hnv] at kb kl kh ⊢
    have hx : dgN x < 10 := by
      by_cases c : dgN x < 10
      · exact c
      · simp [vN, stepV, c] at kb
    have hy : dgN y < 10 := by
      by_cases c : dgN y < 10
      · exact c
      · simp [vN, stepV, c, hx] at kb
    have hz : dgN z < 10 := by
      by_cases c : dgN z < 10
      · exact c
      · simp [vN, stepV, c, hx, hy] at kb
    have hv : vN 10 [x, y, z] = some ((dgN x * 10 + dgN y) * 10 + dgN z) := by simp [vN, stepV, hx, hy, hz]
    rw [hv] at kl kh ⊢
    simp only [Option.getD_some] at kl kh ⊢
    have h1 : 1 ≤ dgN x := by omega
    have e := itoa3 ⟨dgN x, hx⟩ ⟨dgN y, hy⟩ ⟨dgN z, hz⟩ h1
    simp only at e
    rw [← (dig_back hx).1, ← (dig_back hy).1, ← (dig_back hz).1] at e
    refine ⟨?_, rfl, ?_, kl, kh⟩
    · unfold itoaS
      rw [e]
    · have := (dig_back hx).2
      have hne : x ≠ 45 := by
        intro q
        rw [q] at this
        exact absurd this (by decide)
      unfold hasP
      have e1 : ((⟨#[x, y, z]⟩ : ByteArray).extract 0 1).toList = [x] := by rw [ByteArray.toList_eq]; rfl
      have e2 : (⟨#[45]⟩ : ByteArray).toList = [45] := lit_list [45]
      show (_ && (((⟨#[x, y, z]⟩ : ByteArray).extract 0 1).toList == (⟨#[45]⟩ : ByteArray).toList)) = false
      rw [e1, e2]
      simp [hne]
  · cases h

theorem bcut_miss {x : ByteArray} (q : Lib.index x.data.toList [32] = -1) : (bcut x).2.1 = ⟨#[]⟩ := by
  show (⟨(Lib.cut x.data.toList [32]).2.1.toArray⟩ : ByteArray) = _
  unfold Lib.cut
  rw [q]
  rfl
/-- A status line that is read is told as it was, or with a blank behind. -/
theorem sta_back {s : ByteArray} (h : (statP s).ok = true) : ∃ c m r, statP s = ⟨c, r, m, true⟩ ∧ (staT (verT m) (itoaS c) r = s ++ ⟨#[13, 10]⟩ ∨ (staT (verT m) (itoaS c) r = s ++ ⟨#[32, 13, 10]⟩ ∧ r = ⟨#[]⟩)) ∧ (m = 0 ∨ m = 1) ∧ (itoaS c).size = 3 ∧ hasP (itoaS c) ⟨#[45]⟩ = false ∧ 100 ≤ c ∧ c ≤ 599 ∧ r.size ≤ s.size := by
  have l1 := bcut_len s
  have l2 := bcut_len (bcut s).2.1
  unfold statP at h ⊢
  split at h
  · rename_i k
    rw [if_pos k]
    obtain ⟨k1, k2, k3⟩ := k
    obtain ⟨hv, hm⟩ := min_ver k1
    obtain ⟨hi, h3, hp, hlo, hhi⟩ := cod_back k2
    refine ⟨_, _, _, rfl, ?_, hm, by rw [hi]; exact h3, by rw [hi]; exact hp, hlo, hhi, by omega⟩
    rw [hv, hi]
    have j1 : s.data.toList = (bcut s).1.data.toList ++ 32 :: (bcut s).2.1.data.toList := by
      rcases idx32 s.data.toList with q | ⟨i, q, e⟩
      · exfalso
        have z : (bcut s).2.1 = ⟨#[]⟩ := by unfold bcut Lib.cut; rw [q]; rfl
        rw [z] at h3
        exact absurd h3 (by decide)
      · show s.data.toList = (Lib.cut s.data.toList [32]).1 ++ 32 :: (Lib.cut s.data.toList [32]).2.1
        unfold Lib.cut
        rw [q, if_pos (by omega)]
        exact e
    rcases idx32 (bcut s).2.1.data.toList with q | ⟨i, q, e⟩
    · right
      have z : (bcut (bcut s).2.1).2.1 = ⟨#[]⟩ := bcut_miss q
      have z2 : (bcut (bcut s).2.1).1.data.toList = (bcut s).2.1.data.toList := by
        show (Lib.cut (bcut s).2.1.data.toList [32]).1 = _
        unfold Lib.cut
        rw [q]
        rfl
      refine ⟨?_, z⟩
      refine ba_eq ?_
      unfold staT
      rw [z]
      simp only [ByteArray.data_append, Array.toList_append]
      rw [z2, j1]
      simp
    · left
      have z2 : (bcut s).2.1.data.toList = (bcut (bcut s).2.1).1.data.toList ++ 32 :: (bcut (bcut s).2.1).2.1.data.toList := by
        show (bcut s).2.1.data.toList = (Lib.cut (bcut s).2.1.data.toList [32]).1 ++ 32 :: (Lib.cut (bcut s).2.1.data.toList [32]).2.1
        unfold Lib.cut
        rw [q, if_pos (by omega)]
        exact e
      refine ba_eq ?_
      unfold staT
      simp only [ByteArray.data_append, Array.toList_append]
      rw [j1, z2]
      simp
  · cases h
end Go.Proofs.YtkdnckkdofoaoaaGreatDoor

/- The reference's Version. -/
namespace Go.Proofs.YtkdnckkdofoaoaaGreatDoor
open Go.RowKit
set_option linter.unusedVariables false

theorem lret3_iib {a b c d : Int} {x y : Bool} (h : a = c) (k : b = d) (l : x = y) : Ending.returned (.tuple #[.int .i64 a, .int .i64 b, .bool x]) = .returned (.tuple #[.int .i64 c, .int .i64 d, .bool y]) := by rw [h, k, l]
theorem eight_of {n : ByteArray} (h : n.size = 8) : ∃ a b c d e f g i, n = ⟨#[a, b, c, d, e, f, g, i]⟩ := by
  obtain ⟨⟨l⟩⟩ := n
  match l, h with
  | [a, b, c, d, e, f, g, i], _ => exact ⟨a, b, c, d, e, f, g, i, rfl⟩
/-- What the reference's Version answers of eight bytes. -/
def rverL (l : List UInt8) : Int × Int × Bool := match l with
  | [a, b, c, d, e, f, g, i] => if ([a, b, c, d, e] == [72, 84, 84, 80, 47]) = true ∧ spanP 48 57 f.toNat = true ∧ g = 46 ∧ spanP 48 57 i.toNat = true then ((f.toNat : Int) - 48, (i.toNat : Int) - 48, true) else (0, 0, false)
  | _ => (0, 0, false)
theorem rverL_len {l : List UInt8} (h : ¬ l.length = 8) : rverL l = (0, 0, false) := by
  unfold rverL
  split
  · exact absurd rfl h
  · rfl
set_option maxHeartbeats 2000000 in
theorem rversion_any (s : ByteArray) (w : World) (hs : s.size ≤ maxLen) : Calls Tryz.prog 89 #[.string s] w fun e w' => e = .returned (.tuple #[.int .i64 (rverL s.data.toList).1, .int .i64 (rverL s.data.toList).2.1, .bool (rverL s.data.toList).2.2]) ∧ Below w.heap.size w w' := by
  have D : Hid (∀ c W, Calls Tryz.prog 82 #[.int .u8 c] W fun e w' => e = .returned (.bool (spanP 48 57 c)) ∧ w' = W) := fun c W => rdig_any c W
  unfold maxLen at hs
  by_cases h8 : s.size = 8
  · obtain ⟨a, b, c, d, e, f, g, i, rfl⟩ := eight_of h8
    clear h8 hs
    unfold rverL
    simp only
    have hx : ((⟨#[a, b, c, d, e, f, g, i]⟩ : ByteArray).extract 0 5).toList = [a, b, c, d, e] := by rw [ByteArray.toList_eq]; rfl
    cases h1 : ([a, b, c, d, e] == [72, 84, 84, 80, 47])
    · rw [if_neg (by simp)]
      have hx' : (((⟨#[a, b, c, d, e, f, g, i]⟩ : ByteArray).extract 0 5).toList == [72, 84, 84, 80, 47]) = false := by rw [hx]; exact h1
      clear h1 hx D
      go_enter Tryz.func89, Tryz.ntmps89
      go_wp2
      go_ret3
      exact ⟨rfl, Below.refl _ _⟩
    · have hx' : (((⟨#[a, b, c, d, e, f, g, i]⟩ : ByteArray).extract 0 5).toList == [72, 84, 84, 80, 47]) = true := by rw [hx]; exact h1
      clear h1 hx
      generalize hE : (if (true = true) ∧ spanP 48 57 f.toNat = true ∧ g = 46 ∧ spanP 48 57 i.toNat = true then ((f.toNat : Int) - 48, (i.toNat : Int) - 48, true) else ((0 : Int), (0 : Int), false)) = E
      obtain ⟨E1, E2, E3⟩ := E
      have D5 : Hid (∀ W, Calls Tryz.prog 82 #[.int .u8 ((⟨#[a, b, c, d, e, f, g, i]⟩ : ByteArray)[5]'(show 5 < 8 by decide)).toNat] W fun e w' => e = .returned (.bool (spanP 48 57 f.toNat)) ∧ w' = W) := fun W => D.out _ W
      have D7 : Hid (∀ W, Calls Tryz.prog 82 #[.int .u8 ((⟨#[a, b, c, d, e, f, g, i]⟩ : ByteArray)[7]'(show 7 < 8 by decide)).toNat] W fun e w' => e = .returned (.bool (spanP 48 57 i.toNat)) ∧ w' = W) := fun W => D.out _ W
      clear D
      cases h5 : spanP 48 57 f.toNat
      · have HE : Hid (((0 : Int), (0 : Int), false) = (E1, E2, E3)) := by rw [Hid, ← hE, if_neg (by simp [h5])]
        rw [h5] at D5
        clear hE h5 D7
        go_enter Tryz.func89, Tryz.ntmps89
        go_wp2_with fail
        refine (D5.out _).mono ?_
        rintro e w1 ⟨rfl, rfl⟩
        go_wp2
        go_ret3
        exact ⟨lret3_iib (congrArg (·.1) HE.out) (congrArg (·.2.1) HE.out) (congrArg (·.2.2) HE.out), Below.refl _ _⟩
      · rw [h5] at D5
        by_cases h6 : g = 46
        · cases h7 : spanP 48 57 i.toNat
          · have HE : Hid (((0 : Int), (0 : Int), false) = (E1, E2, E3)) := by rw [Hid, ← hE, if_neg (by simp [h7])]
            rw [h7] at D7
            have g6 : ((((⟨#[a, b, c, d, e, f, g, i]⟩ : ByteArray)[6]'(show 6 < 8 by decide)).toNat : Nat) : Int) = 46 := by show ((g.toNat : Nat) : Int) = 46; rw [h6]; rfl
            clear hE h5 h7 h6
            go_enter Tryz.func89, Tryz.ntmps89
            go_wp2_with fail
            refine (D5.out _).mono ?_
            rintro e w1 ⟨rfl, rfl⟩
            go_wp2_with fail
            refine (D7.out _).mono ?_
            rintro e w2 ⟨rfl, rfl⟩
            go_wp2
            go_ret3
            exact ⟨lret3_iib (congrArg (·.1) HE.out) (congrArg (·.2.1) HE.out) (congrArg (·.2.2) HE.out), Below.refl _ _⟩
          · have HE : Hid (((f.toNat : Int) - 48, (i.toNat : Int) - 48, true) = (E1, E2, E3)) := by rw [Hid, ← hE, if_pos ⟨rfl, h5, h6, h7⟩]
            rw [h7] at D7
            have g6 : ((((⟨#[a, b, c, d, e, f, g, i]⟩ : ByteArray)[6]'(show 6 < 8 by decide)).toNat : Nat) : Int) = 46 := by show ((g.toNat : Nat) : Int) = 46; rw [h6]; rfl
            have hf : 48 ≤ (f.toNat : Int) ∧ (f.toNat : Int) ≤ 57 := by unfold spanP at h5; simpa using h5
            have hi : 48 ≤ (i.toNat : Int) ∧ (i.toNat : Int) ≤ 57 := by unfold spanP at h7; simpa using h7
            have u5 : IntKind.u8.wrap (((((⟨#[a, b, c, d, e, f, g, i]⟩ : ByteArray)[5]'(show 5 < 8 by decide)).toNat : Nat) : Int) - 48) = (f.toNat : Int) - 48 := by show IntKind.u8.wrap ((f.toNat : Int) - 48) = _; simp [IntKind.wrap, IntKind.bits, IntKind.signed]; omega
            have u7 : IntKind.u8.wrap (((((⟨#[a, b, c, d, e, f, g, i]⟩ : ByteArray)[7]'(show 7 < 8 by decide)).toNat : Nat) : Int) - 48) = (i.toNat : Int) - 48 := by show IntKind.u8.wrap ((i.toNat : Int) - 48) = _; simp [IntKind.wrap, IntKind.bits, IntKind.signed]; omega
            have v5 : IntKind.i64.wrap ((f.toNat : Int) - 48) = (f.toNat : Int) - 48 := by simp [IntKind.wrap, IntKind.bits, IntKind.signed]; omega
            have v7 : IntKind.i64.wrap ((i.toNat : Int) - 48) = (i.toNat : Int) - 48 := by simp [IntKind.wrap, IntKind.bits, IntKind.signed]; omega
            clear hE h5 h7 h6 hf hi
            go_enter Tryz.func89, Tryz.ntmps89
            go_wp2_with fail
            refine (D5.out _).mono ?_
            rintro e w1 ⟨rfl, rfl⟩
            go_wp2_with fail
            refine (D7.out _).mono ?_
            rintro e w2 ⟨rfl, rfl⟩
            go_wp2_with fail
            go_quiet (fail)
            go_wp2
            go_ret3
            exact ⟨lret3_iib (congrArg (·.1) HE.out) (congrArg (·.2.1) HE.out) (congrArg (·.2.2) HE.out), lbelow_drewN _ _ _⟩
        · have HE : Hid (((0 : Int), (0 : Int), false) = (E1, E2, E3)) := by rw [Hid, ← hE, if_neg (by simp [h6])]
          have g6 : ¬ ((((⟨#[a, b, c, d, e, f, g, i]⟩ : ByteArray)[6]'(show 6 < 8 by decide)).toNat : Nat) : Int) = 46 := by
            show ¬ ((g.toNat : Nat) : Int) = 46
            intro q
            exact h6 (UInt8.toNat_inj.1 (show g.toNat = 46 by omega))
          clear hE h5 h6 D7
          go_enter Tryz.func89, Tryz.ntmps89
          go_wp2_with fail
          refine (D5.out _).mono ?_
          rintro e w1 ⟨rfl, rfl⟩
          go_wp2
          go_ret3
          exact ⟨lret3_iib (congrArg (·.1) HE.out) (congrArg (·.2.1) HE.out) (congrArg (·.2.2) HE.out), Below.refl _ _⟩
  · rw [rverL_len h8]
    have h8' : ¬ (s.size : Int) = 8 := by omega
    clear h8 D
    go_enter Tryz.func89, Tryz.ntmps89
    go_wp2
    go_ret3
    exact ⟨rfl, Below.refl _ _⟩
end Go.Proofs.YtkdnckkdofoaoaaGreatDoor

/- Parts between blanks, plain: at most four of them are found as all of them are. -/
namespace Go.Proofs.YtkdnckkdofoaoaaGreatDoor
open Go.RowKit
set_option linter.unusedVariables false

/-- All parts between blanks. -/
def pl : List UInt8 → List (List UInt8)
  | [] => [[]]
  | b :: l => if b = 32 then [] :: pl l else match pl l with
    | a :: t => (b :: a) :: t
    | [] => [[b]]
theorem pl_ne : ∀ l, ∃ a t, pl l = a :: t
  | [] => ⟨[], [], rfl⟩
  | b :: l => by
    obtain ⟨a, t, h⟩ := pl_ne l
    unfold pl
    rw [h]
    by_cases hb : b = 32
    · rw [if_pos hb]; exact ⟨_, _, rfl⟩
    · rw [if_neg hb]; exact ⟨_, _, rfl⟩
def NoB (a : List UInt8) : Prop := ∀ b ∈ a, b ≠ 32
theorem pl_no : ∀ a, NoB a → pl a = [a]
  | [], _ => rfl
  | b :: l, h => by
    have ih := pl_no l (fun x hx => h x (List.mem_cons_of_mem _ hx))
    unfold pl
    rw [if_neg (h b (List.mem_cons_self ..)), ih]
theorem pl_hit : ∀ a l, NoB a → pl (a ++ 32 :: l) = a :: pl l
  | [], l, _ => by
    show pl (32 :: l) = _
    rw [pl, if_pos rfl]
  | b :: a, l, h => by
    have ih := pl_hit a l (fun x hx => h x (List.mem_cons_of_mem _ hx))
    rw [List.cons_append, pl, if_neg (h b (List.mem_cons_self ..)), ih]
theorem pl_len : ∀ l, (pl l).length ≤ l.length + 1
  | [] => Nat.le_refl _
  | b :: l => by
    have ih := pl_len l
    obtain ⟨a, t, h⟩ := pl_ne l
    unfold pl
    rw [h] at ih ⊢
    by_cases hb : b = 32
    · rw [if_pos hb]
      simp only [List.length_cons] at ih ⊢
      omega
    · rw [if_neg hb]
      simp only [List.length_cons] at ih ⊢
      omega
theorem idxN : ∀ l : List UInt8, (Lib.index l [32] = -1 ∧ NoB l) ∨ ∃ a t, l = a ++ 32 :: t ∧ NoB a ∧ Lib.index l [32] = (a.length : Int)
  | [] => Or.inl ⟨by simp [Lib.index], fun _ h => by cases h⟩
  | b :: l => by
    by_cases hb : b = 32
    · subst hb
      exact Or.inr ⟨[], l, rfl, (fun _ h => by cases h), by simp [Lib.index, List.isPrefixOf]⟩
    · have hp : ([32] : List UInt8).isPrefixOf (b :: l) = false := by simp [List.isPrefixOf, Ne.symm hb]
      rcases idxN l with ⟨h, hn⟩ | ⟨a, t, e, hn, h⟩
      · left
        refine ⟨?_, ?_⟩
        · rw [Lib.index, hp, h]
          simp
        · intro x hx
          cases hx with
          | head => exact hb
          | tail _ hx => exact hn x hx
      · right
        refine ⟨b :: a, t, by rw [e]; rfl, ?_, ?_⟩
        · intro x hx
          cases hx with
          | head => exact hb
          | tail _ hx => exact hn x hx
        · rw [Lib.index, hp, h, if_neg (by decide), if_neg (by simp)]
          simp only [List.length_cons]
          omega
theorem split_pl : ∀ (k : Nat) (l : List UInt8), Lib.splitK [32] 0 k l = pl l ∨ ((Lib.splitK [32] 0 k l).length = k + 1 ∧ k + 1 < (pl l).length)
  | 0, l => by
    rcases idxN l with ⟨_, hn⟩ | ⟨a, t, rfl, hn, _⟩
    · left; rw [pl_no l hn]; rfl
    · right
      refine ⟨rfl, ?_⟩
      rw [pl_hit a t hn]
      obtain ⟨x, y, e⟩ := pl_ne t
      rw [e]
      simp only [List.length_cons]
      omega
  | k + 1, l => by
    rcases idxN l with ⟨h, hn⟩ | ⟨a, t, e, hn, h⟩
    · left
      rw [Lib.splitK, h, pl_no l hn]
      rfl
    · have hne : ¬ (((a.length : Int) == -1) = true) := by simp
      have e1 : ((a.length : Int).toNat + ([32] : List UInt8).length) = a.length + 1 := rfl
      have e0 : ((a.length : Int).toNat + 0) = a.length := rfl
      rw [Lib.splitK, h, if_neg hne, e1, e0]
      have d : l.drop (a.length + 1) = t := by
        rw [e, show a ++ 32 :: t = (a ++ [32]) ++ t by simp, show a.length + 1 = (a ++ [32]).length by simp, List.drop_left]
      have d0 : l.take a.length = a := by rw [e, List.take_left]
      rw [d, d0, e, pl_hit a t hn]
      rcases split_pl k t with q | ⟨q1, q2⟩
      · left; rw [q]
      · right
        simp only [List.length_cons]
        omega
/-- All parts between blanks, as texts. -/
def partsB (s : ByteArray) : List ByteArray := (pl s.data.toList).map fun l => ⟨l.toArray⟩
theorem four_parts (s : ByteArray) : part4 s = partsB s ∨ ((part4 s).length = 4 ∧ 4 < (partsB s).length) := by
  have k := Lib.splitB_data ⟨#[32]⟩ 0 (min 4 (s.size + 1) - 1) s
  have hb : part4 s = (Lib.splitK [32] 0 (min 4 (s.size + 1) - 1) s.data.toList).map fun l => ⟨l.toArray⟩ := by
    rw [show Lib.splitK [32] 0 (min 4 (s.size + 1) - 1) s.data.toList = (Lib.splitB ⟨#[32]⟩ 0 (min 4 (s.size + 1) - 1) s).map (fun b => b.data.toList) from k.symm]
    rw [List.map_map]
    unfold part4
    conv => lhs; rw [← List.map_id (Lib.splitB ⟨#[32]⟩ 0 (min 4 (s.size + 1) - 1) s)]
    rfl
  rw [hb]
  unfold partsB
  rcases split_pl (min 4 (s.size + 1) - 1) s.data.toList with q | ⟨q1, q2⟩
  · left; rw [q]
  · have hl := pl_len s.data.toList
    have e : s.data.toList.length = s.size := rfl
    right
    rw [List.length_map, List.length_map]
    omega
/-- What the reference's Request answers of three parts. -/
def rqR (p0 p1 p2 : ByteArray) : Rq :=
  if (allB tokP p0.data.toList && decide (0 < p0.size)) = false then rqNo 400 else if 20 < p0.size then rqNo 400 else if tgtP p1 = false then rqNo 400 else
  if decide (p1.data.toList.head? = some 47) = false ∧ (eqS p1 ⟨#[42]⟩ = false ∨ eqS p0 ⟨#[79, 80, 84, 73, 79, 78, 83]⟩ = false) then rqNo 400 else if 512 < p1.size then rqNo 414 else
  if (rverL p2.data.toList).2.2 = false then rqNo 400 else if ¬ (rverL p2.data.toList).1 = 1 then rqNo 505 else if 1 < (rverL p2.data.toList).2.1 then rqNo 505 else ⟨p0, p1, (rverL p2.data.toList).2.1, 0⟩
def refQ (s : ByteArray) : Rq := match partsB s with
  | [p0, p1, p2] => rqR p0 p1 p2
  | _ => rqNo 400
end Go.Proofs.YtkdnckkdofoaoaaGreatDoor

/- The reference's Target and parts. -/
namespace Go.Proofs.YtkdnckkdofoaoaaGreatDoor
open Go.RowKit
set_option linter.unusedVariables false

theorem tg_yes {c : Int} (h1 : ¬ c ≤ 32) (h2 : ¬ 127 ≤ c) : spanP 33 126 c = true := by unfold spanP; simp; omega
theorem tg_lo {c : Int} (h1 : c ≤ 32) : spanP 33 126 c = false := by unfold spanP; simp; omega
theorem tg_hi {c : Int} (h1 : 127 ≤ c) : spanP 33 126 c = false := by unfold spanP; simp; omega

set_option maxHeartbeats 1000000 in
theorem rtarget_any (s : ByteArray) (w : World) (hs : s.size ≤ maxLen) :
    Calls Tryz.prog 113 #[.string s] w fun e w' => e = .returned (.bool (tgtP s)) ∧ w' = w := by
  unfold maxLen at hs
  unfold tgtP
  go_enter Tryz.func113, Tryz.ntmps113
  go_wp2
  go_loop [3] (fun i => ∃ k : Nat, k ≤ s.size ∧ i = .int .i64 k ∧ Hid (allB (spanP 33 126) (s.data.toList.take k) = true)) (fun i => s.size - (intOf i).toNat)
  case atStart => exact ⟨0, Nat.zero_le _, rfl, rfl⟩
  case round =>
    obtain ⟨k, hk, rfl, hA⟩ := hrel
    by_cases hlt : k < s.size
    · by_cases a : (s[k].toNat : Int) ≤ 32
      · have HC := allB_false (p := spanP 33 126) s k hlt (tg_lo a)
        go_wp2
        go_ret
        exact ⟨ret_b (by simp), rfl⟩
      · have a' : decide ((s[k].toNat : Int) ≤ 32) = false := by simp; omega
        by_cases b : 127 ≤ (s[k].toNat : Int)
        · have HC := allB_false (p := spanP 33 126) s k hlt (tg_hi b)
          clear a
          go_wp2
          go_ret
          exact ⟨ret_b (by simp), rfl⟩
        · have b' : decide (127 ≤ (s[k].toNat : Int)) = false := by simp; omega
          have HC : Hid (allB (spanP 33 126) (s.data.toList.take (k + 1)) = true) := allB_snoc s k hlt hA.out (tg_yes a b)
          clear a b
          go_wp2
          go_round
          case rel => exact ⟨k + 1, by omega, by go_num, HC⟩
          case measure => simp [intOf]; omega
    · have hk' : k = s.size := by omega
      subst hk'
      have h := hA.out
      rw [List.take_of_length_le (show s.data.toList.length ≤ s.size from Nat.le_refl _)] at h
      rcases Nat.eq_zero_or_pos s.size with h0 | h0
      · have h0' : decide ((0 : Int) < (s.size : Int)) = false := decide_eq_false (by omega)
        go_wp2
        go_ret
        exact ⟨ret_b (by first | (simp; done) | (simp; omega)), rfl⟩
      · have h0' : decide ((0 : Int) < (s.size : Int)) = true := decide_eq_true (by omega)
        go_wp2
        go_ret
        exact ⟨ret_b (by first | (simp; done) | (simp; omega)), rfl⟩

theorem ext_mid (s : ByteArray) (f i : Nat) : (s.extract f i).data.toList = (s.data.toList.take i).drop f := by
  rw [Lib.extract_data, List.drop_take]
/-- One text appended. -/
theorem lownT_one {B : Nat} {w : World} {v : Value} {X : List ByteArray} (x : ByteArray) (h : OwnT B w v X) (hmax : X.length + 1 ≤ 4294967296) (hB : B ≤ w.heap.size) :
    ∃ g' c' w', (Builtin.append_ #[39, 39] 39 #[v, .slice (some ⟨w.heap.size, 0, none⟩) 1 1]).run Tryz.prog (w.alloc (.cells #[.string x] 9)) = .ok (.slice (some ⟨g', 0, none⟩) (X ++ [x]).length c') w' ∧
      OwnT B w' (.slice (some ⟨g', 0, none⟩) (X ++ [x]).length c') (X ++ [x]) ∧ Below B w w' := by
  obtain ⟨i, hi, hz0, hz1, hz2⟩ := info_parts info9
  obtain ⟨v', w', hr, q1, q2, q3, q4⟩ := run_append_own_at (P := Tryz.prog) (w.alloc (.cells #[.string x] 9)) B 39 39 9 i (.string ByteArray.empty) 1 16 Tryz.underlying39 hi hz0 hz1 hz2 rfl (by decide) v X.length (X.map Value.string) (h.alloc _) ⟨w.heap.size, 0, none⟩ 1 1 [.string x] rfl
    (fun j u hj => by
      have : j = 0 := by have := (List.getElem?_eq_some_iff.1 hj).1; simpa using this
      subst this
      have : u = .string x := by simpa using hj.symm
      subst this
      rw [addr_add]
      exact tblk_cell (tblk_new _ _) rfl) (rowT_one [x]) (by unfold maxLen; omega) (by omega) (by simp; omega)
  have hq : w'.ownsRow B 9 1 v' (X ++ [x]).length ((X ++ [x]).map Value.string) := by rw [List.length_append, List.map_append]; exact q1
  rcases hq.2 with ⟨_, hz⟩ | ⟨g', c', cur, hv, _⟩
  · rw [List.length_append] at hz
    have : ([x] : List ByteArray).length = 1 := rfl
    omega
  · subst hv
    exact ⟨g', c', w', hr, hq, ((Below.refl _ _).alloc hB _).grown q2 (by simp; omega) (fun q hq => (h.lt q hq).1)⟩

/-- What is found of the parts up to a place. -/
def PtI (s : ByteArray) (f i : Nat) (K : List ByteArray) : Prop := NoB ((s.data.toList.take i).drop f) ∧ partsB s = K ++ (pl (s.data.toList.drop f)).map (fun l => ⟨l.toArray⟩) ∧ K.length ≤ f
theorem ptI_0 (s : ByteArray) : PtI s 0 0 [] := ⟨(fun _ h => by cases h), rfl, Nat.le_refl _⟩
theorem ldrop_at (l : List UInt8) (f i : Nat) (hf : f ≤ i) (hi : i < l.length) : l.drop f = (l.take i).drop f ++ l[i] :: l.drop (i + 1) := by
  have e : l = l.take i ++ l[i] :: l.drop (i + 1) := by
    rw [← List.drop_eq_getElem_cons hi, List.take_append_drop]
  conv => lhs; rw [e]
  rw [List.drop_append_of_le_length (by rw [List.length_take]; omega)]
theorem ptI_no {s : ByteArray} {f i : Nat} {K : List ByteArray} (h : PtI s f i K) (hf : f ≤ i) (hi : i < s.size) (hb : ¬ (s[i].toNat : Int) = 32) : PtI s f (i + 1) K := by
  refine ⟨?_, h.2⟩
  have hi' : i < s.data.toList.length := hi
  rw [List.take_succ_eq_append_getElem hi', List.drop_append_of_le_length (by rw [List.length_take]; omega)]
  intro b hm
  rcases List.mem_append.1 hm with k | k
  · exact h.1 b k
  · rw [List.mem_singleton.1 k]
    intro e
    refine hb ?_
    have : s[i] = 32 := e
    rw [this]; rfl
theorem ptI_hit {s : ByteArray} {f i : Nat} {K : List ByteArray} (h : PtI s f i K) (hf : f ≤ i) (hi : i < s.size) (hb : (s[i].toNat : Int) = 32) : PtI s (i + 1) (i + 1) (K ++ [s.extract f i]) := by
  have hi' : i < s.data.toList.length := hi
  have e32 : s.data.toList[i] = 32 := UInt8.toNat_inj.1 (by have e : (32 : UInt8).toNat = 32 := rfl; have k : (s.data.toList[i].toNat : Int) = 32 := hb; omega)
  refine ⟨?_, ?_, ?_⟩
  · rw [List.drop_eq_nil_of_le (by rw [List.length_take]; omega)]
    intro _ hm
    cases hm
  · rw [h.2.1, ldrop_at _ f i hf hi', e32, pl_hit _ _ h.1, List.map_cons, List.append_assoc, List.singleton_append]
    have e : s.extract f i = ⟨((s.data.toList.take i).drop f).toArray⟩ := ba_eq (ext_mid s f i)
    rw [e]
  · rw [List.length_append]
    have e : [s.extract f i].length = 1 := rfl
    have := h.2.2
    omega
theorem ptI_end {s : ByteArray} {f : Nat} {K : List ByteArray} (h : PtI s f s.size K) : K ++ [s.extract f s.size] = partsB s := by
  have e0 : s.data.toList.take s.size = s.data.toList := List.take_of_length_le (show s.data.toList.length ≤ s.size from Nat.le_refl _)
  have h1 := h.1
  rw [e0] at h1
  rw [h.2.1, pl_no _ h1]
  have e : s.extract f s.size = ⟨(s.data.toList.drop f).toArray⟩ := ba_eq (by rw [ext_mid, e0])
  rw [e]; rfl

set_option maxRecDepth 100000 in
set_option maxHeartbeats 2000000 in
theorem rparts_any (s : ByteArray) (w : World) (hs : s.size ≤ 4294967281) : Calls Tryz.prog 111 #[.string s] w fun e w' => ∃ g c, e = .returned (.slice (some ⟨g, 0, none⟩) (partsB s).length c) ∧ OwnT w.heap.size w' (.slice (some ⟨g, 0, none⟩) (partsB s).length c) (partsB s) ∧ Below w.heap.size w w' := by
  have C0 : Below w.heap.size w (w.alloc (.cells #[] 9)) := (Below.refl _ _).alloc (Nat.le_refl _) _
  go_enter Tryz.func111, Tryz.ntmps111
  go_wp2_with fail
  go_loopw [3, 4, 5] (fun v vf vi wr => ∃ (K : List ByteArray) (f i g cv : Nat), v = .slice (some ⟨g, 0, none⟩) K.length cv ∧ vf = .int .i64 f ∧ vi = .int .i64 i ∧ Hid (OwnT w.heap.size wr v K) ∧ Hid (Below w.heap.size w wr) ∧ ((i ≤ s.size ∧ f ≤ i ∧ Hid (PtI s f i K)) ∨ (i = s.size + 1 ∧ Hid (K = partsB s)))) (fun _ _ vi _ => s.size + 1 - (intOf vi).toNat)
  case atStart => exact ⟨[], 0, 0, w.heap.size, 0, rfl, rfl, rfl, OwnT.empty _ _ (Nat.le_refl _), C0, .inl ⟨Nat.zero_le _, Nat.le_refl _, ptI_0 s⟩⟩
  case round =>
    clear C0
    obtain ⟨K, f, i, g, cv, rfl, rfl, rfl, hO, hB, ⟨hi, hf, hP⟩ | ⟨hi, hP⟩⟩ := hrel
    · have hle : (i : Int) ≤ (s.size : Int) := by omega
      have hKf : K.length ≤ f := hP.out.2.2
      by_cases he : i = s.size
      · subst he
        have hE : Hid (K ++ [s.extract f s.size] = partsB s) := ptI_end hP.out
        have hf' : (f : Int) ≤ (s.size : Int) := by omega
        obtain ⟨g4, c4, w4, r4, o4, b4⟩ := lownT_one (s.extract f s.size) hO.out (by omega) hB.out.size
        have HR : Hid ((Builtin.append_ #[39, 39] 39 #[.slice (some ⟨g, 0, none⟩) K.length cv, .slice (some ⟨wr.heap.size, 0, none⟩) 1 1]).run Tryz.prog (wr.alloc (.cells #[.string (s.extract f s.size)] 9)) = .ok (.slice (some ⟨g4, 0, none⟩) (K ++ [s.extract f s.size]).length c4) w4) := r4
        have HO : Hid (OwnT w.heap.size w4 (.slice (some ⟨g4, 0, none⟩) (K ++ [s.extract f s.size]).length c4) (K ++ [s.extract f s.size])) := o4
        have HB : Hid (Below w.heap.size w w4) := hB.out.trans b4
        clear r4 o4 b4 hO hB hP
        generalize K ++ [s.extract f s.size] = K' at *
        go_wp2_with (at_builtin; refine wpList_append_run2 rfl _ _ 39 39 rfl _ _ _ w4 rfl rfl HR.out ?_)
        go_roundw
        case rel => exact ⟨K', s.size + 1, s.size + 1, g4, c4, rfl, by go_num, by go_num, HO, HB, .inr ⟨rfl, hE⟩⟩
        case measure => simp [intOf]
      · have hlt : i < s.size := by omega
        have he' : ((i : Int) == (s.size : Int)) = false := by simp; omega
        by_cases hb : (s[i].toNat : Int) = 32
        · have hE : Hid (PtI s (i + 1) (i + 1) (K ++ [s.extract f i])) := ptI_hit hP.out hf hlt hb
          have hb' : ((s[i].toNat : Int) == 32) = true := by simp; omega
          have hf' : (f : Int) ≤ (i : Int) := by omega
          obtain ⟨g4, c4, w4, r4, o4, b4⟩ := lownT_one (s.extract f i) hO.out (by omega) hB.out.size
          have HR : Hid ((Builtin.append_ #[39, 39] 39 #[.slice (some ⟨g, 0, none⟩) K.length cv, .slice (some ⟨wr.heap.size, 0, none⟩) 1 1]).run Tryz.prog (wr.alloc (.cells #[.string (s.extract f i)] 9)) = .ok (.slice (some ⟨g4, 0, none⟩) (K ++ [s.extract f i]).length c4) w4) := r4
          have HO : Hid (OwnT w.heap.size w4 (.slice (some ⟨g4, 0, none⟩) (K ++ [s.extract f i]).length c4) (K ++ [s.extract f i])) := o4
          have HB : Hid (Below w.heap.size w w4) := hB.out.trans b4
          clear r4 o4 b4 hO hB hP hb he
          generalize K ++ [s.extract f i] = K' at *
          go_wp2_with (at_builtin; refine wpList_append_run2 rfl _ _ 39 39 rfl _ _ _ w4 rfl rfl HR.out ?_)
          go_roundw
          case rel => exact ⟨K', i + 1, i + 1, g4, c4, rfl, by go_num, by go_num, HO, HB, .inl ⟨hlt, Nat.le_refl _, hE⟩⟩
          case measure => simp [intOf]; omega
        · have hE : Hid (PtI s f (i + 1) K) := ptI_no hP.out hf hlt hb
          have hb' : ((s[i].toNat : Int) == 32) = false := by simp; omega
          clear hP hb he
          go_wp2
          go_roundw
          case rel => exact ⟨K, f, i + 1, g, cv, rfl, rfl, by go_num, hO, hB, .inl ⟨hlt, by omega, hE⟩⟩
          case measure => simp [intOf]; omega
    · subst hi
      have hle : decide (((s.size + 1 : Nat) : Int) ≤ (s.size : Int)) = false := by simp; omega
      obtain rfl := hP.out
      clear hP
      go_wp2
      go_ret
      exact ⟨g, cv, rfl, hO.out, hB.out⟩
end Go.Proofs.YtkdnckkdofoaoaaGreatDoor

/- The reference's Request. -/
namespace Go.Proofs.YtkdnckkdofoaoaaGreatDoor
open Go.RowKit
set_option linter.unusedVariables false

theorem parts_sizes (s : ByteArray) : ∀ p ∈ partsB s, p.size ≤ s.size := by
  intro p hp
  unfold partsB at hp
  obtain ⟨l, hl, rfl⟩ := List.mem_map.1 hp
  have k : ∀ (x : List UInt8), ∀ l ∈ pl x, l.length ≤ x.length := by
    intro x
    induction x with
    | nil => intro l hl; rw [List.mem_singleton.1 hl]; exact Nat.le_refl _
    | cons b x ih =>
      intro l hl
      obtain ⟨a, t, h⟩ := pl_ne x
      unfold pl at hl
      rw [h] at hl ih
      by_cases hb : b = 32
      · rw [if_pos hb] at hl
        rcases List.mem_cons.1 hl with rfl | hl
        · exact Nat.zero_le _
        · have := ih l hl
          simp only [List.length_cons]
          omega
      · rw [if_neg hb] at hl
        rcases List.mem_cons.1 hl with rfl | hl
        · have := ih a (List.mem_cons_self ..)
          simp only [List.length_cons]
          omega
        · have := ih l (List.mem_cons_of_mem _ hl)
          simp only [List.length_cons]
          omega
  exact k s.data.toList l hl
theorem tgt_pos {p : ByteArray} (h : tgtP p = true) : 0 < p.size := by
  unfold tgtP at h
  rw [Bool.and_eq_true] at h
  exact of_decide_eq_true h.2
theorem eqS_lit (p : ByteArray) (l : List UInt8) : eqS p ⟨l.toArray⟩ = (p.toList == l) := by
  show (p.toList == (⟨l.toArray⟩ : ByteArray).toList) = _
  rw [lit_list l]
theorem bne_of {a b : List UInt8} {x : Bool} (h : (a == b) = x) : (a != b) = !x := by unfold bne; rw [h]

set_option maxRecDepth 100000 in
set_option maxHeartbeats 8000000 in
theorem rreq_three (p0 p1 p2 s : ByteArray) (w : World) (hs : s.size ≤ 4294967281) (hp : partsB s = [p0, p1, p2]) :
    Calls Tryz.prog 64 #[.string s] w fun e w' => e = .returned (.tuple #[rqV (rqR p0 p1 p2), .int .i64 (rqR p0 p1 p2).code]) ∧ Below w.heap.size w w' := by
  have q0 : p0.size ≤ s.size := parts_sizes s p0 (by rw [hp]; simp)
  have q1 : p1.size ≤ s.size := parts_sizes s p1 (by rw [hp]; simp)
  have q2 : p2.size ≤ s.size := parts_sizes s p2 (by rw [hp]; simp)
  have C0 : Below w.heap.size w (w.alloc (.cells #[.string ⟨#[]⟩, .string ⟨#[]⟩, .int .i64 0, .slice none 0 0, .slice none 0 0] 26)) := (Below.refl _ _).alloc (Nat.le_refl _) _
  have hg0 := tblk_new w (.cells #[.string ⟨#[]⟩, .string ⟨#[]⟩, .int .i64 0, .slice none 0 0, .slice none 0 0] 26)
  have H1 : Hid (Calls Tryz.prog 111 #[.string s] (w.alloc (.cells #[.string ⟨#[]⟩, .string ⟨#[]⟩, .int .i64 0, .slice none 0 0, .slice none 0 0] 26)) fun e w' => ∃ b c, e = .returned (.slice (some ⟨b, 0, none⟩) 3 c) ∧ RQ w b p0 p1 p2 w') := by
    refine (rparts_any s _ hs).mono ?_
    rintro e w' ⟨g, c, he, hO, B⟩
    rw [hp] at he hO
    have hb : (w.alloc (.cells #[.string ⟨#[]⟩, .string ⟨#[]⟩, .int .i64 0, .slice none 0 0, .slice none 0 0] 26)).heap.size ≤ g := by
      rcases hO.2 with ⟨_, hz⟩ | ⟨g', c', cur, hv, hB, _⟩
      · cases hz
      · cases hv
        exact hB
    have c0 := World.ownsRow.cellAt hO 0 (by simp)
    have c1 := World.ownsRow.cellAt hO 1 (by simp)
    have c2 := World.ownsRow.cellAt hO 2 (by simp)
    exact ⟨g, c, he, C0.trans (B.mono C0.size), tblk_below hg0 B, lcell_lt c0, ne_of_le hb, c0, c1, c2⟩
  have HK : Hid (∀ W, Calls Tryz.prog 112 #[.string p0] W fun e w' => e = .returned (.bool (allB tokP p0.data.toList && decide (0 < p0.size))) ∧ w' = W) := fun W => rToken_any p0 W (by unfold maxLen; omega)
  have HG : Hid (∀ W, Calls Tryz.prog 113 #[.string p1] W fun e w' => e = .returned (.bool (tgtP p1)) ∧ w' = W) := fun W => rtarget_any p1 W (by unfold maxLen; omega)
  have HV : Hid (∀ W, Calls Tryz.prog 89 #[.string p2] W fun e w' => e = .returned (.tuple #[.int .i64 (rverL p2.data.toList).1, .int .i64 (rverL p2.data.toList).2.1, .bool (rverL p2.data.toList).2.2]) ∧ Below W.heap.size W w') := fun W => rversion_any p2 W (by unfold maxLen; omega)
  have hps := tgt_pos (p := p1)
  unfold rqR
  generalize (allB tokP p0.data.toList && decide (0 < p0.size)) = tk at *
  generalize tgtP p1 = tg at *
  generalize rverL p2.data.toList = V at *
  obtain ⟨M, mi, ok⟩ := V
  simp only at HV ⊢
  clear q0 q1 q2 hs hp C0 hg0
  cases tk
  · rw [if_pos rfl]
    go_enter Tryz.func64, Tryz.ntmps64
    go_wp2_with fail
    refine H1.out.mono ?_
    rintro e w1 ⟨b, c, rfl, I0⟩
    have s0 := I0.c0
    have s1 := I0.c1
    have s2 := I0.c2
    clear H1
    go_wp2_with fail
    refine (HK.out _).mono ?_
    rintro e w2 ⟨rfl, rfl⟩
    have HW := five_cells I0.own (.string ⟨#[]⟩) (.string ⟨#[]⟩) (.int .i64 0) (.slice none 0 0) (.slice none 0 0)
    have HB := five_below (.string ⟨#[]⟩) (.string ⟨#[]⟩) (.int .i64 0) (.slice none 0 0) (.slice none 0 0) I0.below (Nat.le_refl _)
    have a0 := tblk_cell (i := 0) I0.own rfl
    have z0 := lblk_z (i := 0) I0.own
    have a1 := tblk_cell (i := 1) I0.own rfl
    have z1 := lblk_z (i := 1) I0.own
    have a2 := tblk_cell (i := 2) I0.own rfl
    have z2 := lblk_z (i := 2) I0.own
    have a3 := tblk_cell (i := 3) I0.own rfl
    have z3 := lblk_z (i := 3) I0.own
    have a4 := tblk_cell (i := 4) I0.own rfl
    have z4 := lblk_z (i := 4) I0.own
    have r0 := tblk_cell (i := 0) HW rfl
    have r1 := tblk_cell (i := 1) HW rfl
    have r2 := tblk_cell (i := 2) HW rfl
    have r3 := tblk_cell (i := 3) HW rfl
    have r4 := tblk_cell (i := 4) HW rfl
    unfold five at r0 r1 r2 r3 r4 HB
    have HB' : Hid _ := HB
    clear HB HW
    go_wp2
    refine bodyPost_ret (v := .tuple #[.agg #[.string ⟨#[]⟩, .string ⟨#[]⟩, .int .i64 0, .slice none 0 0, .slice none 0 0], .int .i64 400]) (by simp [results, Tryz.results64, go_sem, r0, r1, r2, r3, r4]) rfl ⟨rfl, HB'.out⟩
  · rw [if_neg (by decide)]
    by_cases h20 : 20 < p0.size
    · rw [if_pos h20]
      have h20B : decide ((20 : Int) < (p0.size : Int)) = true := decide_eq_true (by omega)
      clear h20
      go_enter Tryz.func64, Tryz.ntmps64
      go_wp2_with fail
      refine H1.out.mono ?_
      rintro e w1 ⟨b, c, rfl, I0⟩
      have s0 := I0.c0
      have s1 := I0.c1
      have s2 := I0.c2
      clear H1
      go_wp2_with fail
      refine (HK.out _).mono ?_
      rintro e w2 ⟨rfl, rfl⟩
      have HW := five_cells I0.own (.string ⟨#[]⟩) (.string ⟨#[]⟩) (.int .i64 0) (.slice none 0 0) (.slice none 0 0)
      have HB := five_below (.string ⟨#[]⟩) (.string ⟨#[]⟩) (.int .i64 0) (.slice none 0 0) (.slice none 0 0) I0.below (Nat.le_refl _)
      have a0 := tblk_cell (i := 0) I0.own rfl
      have z0 := lblk_z (i := 0) I0.own
      have a1 := tblk_cell (i := 1) I0.own rfl
      have z1 := lblk_z (i := 1) I0.own
      have a2 := tblk_cell (i := 2) I0.own rfl
      have z2 := lblk_z (i := 2) I0.own
      have a3 := tblk_cell (i := 3) I0.own rfl
      have z3 := lblk_z (i := 3) I0.own
      have a4 := tblk_cell (i := 4) I0.own rfl
      have z4 := lblk_z (i := 4) I0.own
      have r0 := tblk_cell (i := 0) HW rfl
      have r1 := tblk_cell (i := 1) HW rfl
      have r2 := tblk_cell (i := 2) HW rfl
      have r3 := tblk_cell (i := 3) HW rfl
      have r4 := tblk_cell (i := 4) HW rfl
      unfold five at r0 r1 r2 r3 r4 HB
      have HB' : Hid _ := HB
      clear HB HW
      go_wp2
      refine bodyPost_ret (v := .tuple #[.agg #[.string ⟨#[]⟩, .string ⟨#[]⟩, .int .i64 0, .slice none 0 0, .slice none 0 0], .int .i64 400]) (by simp [results, Tryz.results64, go_sem, r0, r1, r2, r3, r4]) rfl ⟨rfl, HB'.out⟩
    · rw [if_neg h20]
      have h20B : decide ((20 : Int) < (p0.size : Int)) = false := decide_eq_false (by omega)
      clear h20
      cases tg
      · rw [if_pos rfl]
        go_enter Tryz.func64, Tryz.ntmps64
        go_wp2_with fail
        refine H1.out.mono ?_
        rintro e w1 ⟨b, c, rfl, I0⟩
        have s0 := I0.c0
        have s1 := I0.c1
        have s2 := I0.c2
        clear H1
        go_wp2_with fail
        refine (HK.out _).mono ?_
        rintro e w2 ⟨rfl, rfl⟩
        go_wp2_with fail
        refine (HG.out _).mono ?_
        rintro e w3 ⟨rfl, rfl⟩
        have HW := five_cells I0.own (.string ⟨#[]⟩) (.string ⟨#[]⟩) (.int .i64 0) (.slice none 0 0) (.slice none 0 0)
        have HB := five_below (.string ⟨#[]⟩) (.string ⟨#[]⟩) (.int .i64 0) (.slice none 0 0) (.slice none 0 0) I0.below (Nat.le_refl _)
        have a0 := tblk_cell (i := 0) I0.own rfl
        have z0 := lblk_z (i := 0) I0.own
        have a1 := tblk_cell (i := 1) I0.own rfl
        have z1 := lblk_z (i := 1) I0.own
        have a2 := tblk_cell (i := 2) I0.own rfl
        have z2 := lblk_z (i := 2) I0.own
        have a3 := tblk_cell (i := 3) I0.own rfl
        have z3 := lblk_z (i := 3) I0.own
        have a4 := tblk_cell (i := 4) I0.own rfl
        have z4 := lblk_z (i := 4) I0.own
        have r0 := tblk_cell (i := 0) HW rfl
        have r1 := tblk_cell (i := 1) HW rfl
        have r2 := tblk_cell (i := 2) HW rfl
        have r3 := tblk_cell (i := 3) HW rfl
        have r4 := tblk_cell (i := 4) HW rfl
        unfold five at r0 r1 r2 r3 r4 HB
        have HB' : Hid _ := HB
        clear HB HW
        go_wp2
        refine bodyPost_ret (v := .tuple #[.agg #[.string ⟨#[]⟩, .string ⟨#[]⟩, .int .i64 0, .slice none 0 0, .slice none 0 0], .int .i64 400]) (by simp [results, Tryz.results64, go_sem, r0, r1, r2, r3, r4]) rfl ⟨rfl, HB'.out⟩
      · rw [if_neg (by decide)]
        have hpos := hps rfl
        have hpos' : (0 : Int) < (p1.size : Int) := by omega
        clear hps
        rw [head_eq hpos, eqS_lit p1 [42], eqS_lit p0 [79, 80, 84, 73, 79, 78, 83]]
        cases h47 : ((p1[0].toNat : Int) == 47)
        · have n47 : ((p1[0].toNat : Int) != 47) = true := by unfold bne; rw [h47]; rfl
          cases hst : (p1.toList == [42])
          · rw [if_pos ⟨rfl, Or.inl rfl⟩]
            have nst := bne_of hst
            go_enter Tryz.func64, Tryz.ntmps64
            go_wp2_with fail
            refine H1.out.mono ?_
            rintro e w1 ⟨b, c, rfl, I0⟩
            have s0 := I0.c0
            have s1 := I0.c1
            have s2 := I0.c2
            clear H1
            go_wp2_with fail
            refine (HK.out _).mono ?_
            rintro e w2 ⟨rfl, rfl⟩
            go_wp2_with fail
            refine (HG.out _).mono ?_
            rintro e w3 ⟨rfl, rfl⟩
            have HW := five_cells I0.own (.string ⟨#[]⟩) (.string ⟨#[]⟩) (.int .i64 0) (.slice none 0 0) (.slice none 0 0)
            have HB := five_below (.string ⟨#[]⟩) (.string ⟨#[]⟩) (.int .i64 0) (.slice none 0 0) (.slice none 0 0) I0.below (Nat.le_refl _)
            have a0 := tblk_cell (i := 0) I0.own rfl
            have z0 := lblk_z (i := 0) I0.own
            have a1 := tblk_cell (i := 1) I0.own rfl
            have z1 := lblk_z (i := 1) I0.own
            have a2 := tblk_cell (i := 2) I0.own rfl
            have z2 := lblk_z (i := 2) I0.own
            have a3 := tblk_cell (i := 3) I0.own rfl
            have z3 := lblk_z (i := 3) I0.own
            have a4 := tblk_cell (i := 4) I0.own rfl
            have z4 := lblk_z (i := 4) I0.own
            have r0 := tblk_cell (i := 0) HW rfl
            have r1 := tblk_cell (i := 1) HW rfl
            have r2 := tblk_cell (i := 2) HW rfl
            have r3 := tblk_cell (i := 3) HW rfl
            have r4 := tblk_cell (i := 4) HW rfl
            unfold five at r0 r1 r2 r3 r4 HB
            have HB' : Hid _ := HB
            clear HB HW
            go_wp2
            refine bodyPost_ret (v := .tuple #[.agg #[.string ⟨#[]⟩, .string ⟨#[]⟩, .int .i64 0, .slice none 0 0, .slice none 0 0], .int .i64 400]) (by simp [results, Tryz.results64, go_sem, r0, r1, r2, r3, r4]) rfl ⟨rfl, HB'.out⟩
          · have nst := bne_of hst
            cases hop : (p0.toList == [79, 80, 84, 73, 79, 78, 83])
            · rw [if_pos ⟨rfl, Or.inr rfl⟩]
              have nop := bne_of hop
              go_enter Tryz.func64, Tryz.ntmps64
              go_wp2_with fail
              refine H1.out.mono ?_
              rintro e w1 ⟨b, c, rfl, I0⟩
              have s0 := I0.c0
              have s1 := I0.c1
              have s2 := I0.c2
              clear H1
              go_wp2_with fail
              refine (HK.out _).mono ?_
              rintro e w2 ⟨rfl, rfl⟩
              go_wp2_with fail
              refine (HG.out _).mono ?_
              rintro e w3 ⟨rfl, rfl⟩
              have HW := five_cells I0.own (.string ⟨#[]⟩) (.string ⟨#[]⟩) (.int .i64 0) (.slice none 0 0) (.slice none 0 0)
              have HB := five_below (.string ⟨#[]⟩) (.string ⟨#[]⟩) (.int .i64 0) (.slice none 0 0) (.slice none 0 0) I0.below (Nat.le_refl _)
              have a0 := tblk_cell (i := 0) I0.own rfl
              have z0 := lblk_z (i := 0) I0.own
              have a1 := tblk_cell (i := 1) I0.own rfl
              have z1 := lblk_z (i := 1) I0.own
              have a2 := tblk_cell (i := 2) I0.own rfl
              have z2 := lblk_z (i := 2) I0.own
              have a3 := tblk_cell (i := 3) I0.own rfl
              have z3 := lblk_z (i := 3) I0.own
              have a4 := tblk_cell (i := 4) I0.own rfl
              have z4 := lblk_z (i := 4) I0.own
              have r0 := tblk_cell (i := 0) HW rfl
              have r1 := tblk_cell (i := 1) HW rfl
              have r2 := tblk_cell (i := 2) HW rfl
              have r3 := tblk_cell (i := 3) HW rfl
              have r4 := tblk_cell (i := 4) HW rfl
              unfold five at r0 r1 r2 r3 r4 HB
              have HB' : Hid _ := HB
              clear HB HW
              go_wp2
              refine bodyPost_ret (v := .tuple #[.agg #[.string ⟨#[]⟩, .string ⟨#[]⟩, .int .i64 0, .slice none 0 0, .slice none 0 0], .int .i64 400]) (by simp [results, Tryz.results64, go_sem, r0, r1, r2, r3, r4]) rfl ⟨rfl, HB'.out⟩
            · rw [if_neg (by rintro ⟨_, k | k⟩ <;> cases k)]
              have nop := bne_of hop
              by_cases h512 : 512 < p1.size
              · rw [if_pos h512]
                have hlB : decide ((512 : Int) < (p1.size : Int)) = true := decide_eq_true (by omega)
                clear h512
                go_enter Tryz.func64, Tryz.ntmps64
                go_wp2_with fail
                refine H1.out.mono ?_
                rintro e w1 ⟨b, c, rfl, I0⟩
                have s0 := I0.c0
                have s1 := I0.c1
                have s2 := I0.c2
                clear H1
                go_wp2_with fail
                refine (HK.out _).mono ?_
                rintro e w2 ⟨rfl, rfl⟩
                go_wp2_with fail
                refine (HG.out _).mono ?_
                rintro e w3 ⟨rfl, rfl⟩
                have HW := five_cells I0.own (.string ⟨#[]⟩) (.string ⟨#[]⟩) (.int .i64 0) (.slice none 0 0) (.slice none 0 0)
                have HB := five_below (.string ⟨#[]⟩) (.string ⟨#[]⟩) (.int .i64 0) (.slice none 0 0) (.slice none 0 0) I0.below (Nat.le_refl _)
                have a0 := tblk_cell (i := 0) I0.own rfl
                have z0 := lblk_z (i := 0) I0.own
                have a1 := tblk_cell (i := 1) I0.own rfl
                have z1 := lblk_z (i := 1) I0.own
                have a2 := tblk_cell (i := 2) I0.own rfl
                have z2 := lblk_z (i := 2) I0.own
                have a3 := tblk_cell (i := 3) I0.own rfl
                have z3 := lblk_z (i := 3) I0.own
                have a4 := tblk_cell (i := 4) I0.own rfl
                have z4 := lblk_z (i := 4) I0.own
                have r0 := tblk_cell (i := 0) HW rfl
                have r1 := tblk_cell (i := 1) HW rfl
                have r2 := tblk_cell (i := 2) HW rfl
                have r3 := tblk_cell (i := 3) HW rfl
                have r4 := tblk_cell (i := 4) HW rfl
                unfold five at r0 r1 r2 r3 r4 HB
                have HB' : Hid _ := HB
                clear HB HW
                go_wp2
                refine bodyPost_ret (v := .tuple #[.agg #[.string ⟨#[]⟩, .string ⟨#[]⟩, .int .i64 0, .slice none 0 0, .slice none 0 0], .int .i64 414]) (by simp [results, Tryz.results64, go_sem, r0, r1, r2, r3, r4]) rfl ⟨rfl, HB'.out⟩
              · rw [if_neg h512]
                have hlB : decide ((512 : Int) < (p1.size : Int)) = false := decide_eq_false (by omega)
                clear h512
                cases ok
                · rw [if_pos rfl]
                  go_enter Tryz.func64, Tryz.ntmps64
                  go_wp2_with fail
                  refine H1.out.mono ?_
                  rintro e w1 ⟨b, c, rfl, I0⟩
                  have s0 := I0.c0
                  have s1 := I0.c1
                  have s2 := I0.c2
                  clear H1
                  go_wp2_with fail
                  refine (HK.out _).mono ?_
                  rintro e w2 ⟨rfl, rfl⟩
                  go_wp2_with fail
                  refine (HG.out _).mono ?_
                  rintro e w3 ⟨rfl, rfl⟩
                  go_wp2_with fail
                  refine (HV.out _).mono ?_
                  rintro e w4 ⟨rfl, B4⟩
                  have I1 := I0.next B4
                  have t0 := I1.c0
                  have t1 := I1.c1
                  clear B4
                  have HW := five_cells I1.own (.string ⟨#[]⟩) (.string ⟨#[]⟩) (.int .i64 0) (.slice none 0 0) (.slice none 0 0)
                  have HB := five_below (.string ⟨#[]⟩) (.string ⟨#[]⟩) (.int .i64 0) (.slice none 0 0) (.slice none 0 0) I1.below (Nat.le_refl _)
                  have a0 := tblk_cell (i := 0) I1.own rfl
                  have z0 := lblk_z (i := 0) I1.own
                  have a1 := tblk_cell (i := 1) I1.own rfl
                  have z1 := lblk_z (i := 1) I1.own
                  have a2 := tblk_cell (i := 2) I1.own rfl
                  have z2 := lblk_z (i := 2) I1.own
                  have a3 := tblk_cell (i := 3) I1.own rfl
                  have z3 := lblk_z (i := 3) I1.own
                  have a4 := tblk_cell (i := 4) I1.own rfl
                  have z4 := lblk_z (i := 4) I1.own
                  have r0 := tblk_cell (i := 0) HW rfl
                  have r1 := tblk_cell (i := 1) HW rfl
                  have r2 := tblk_cell (i := 2) HW rfl
                  have r3 := tblk_cell (i := 3) HW rfl
                  have r4 := tblk_cell (i := 4) HW rfl
                  unfold five at r0 r1 r2 r3 r4 HB
                  have HB' : Hid _ := HB
                  clear HB HW
                  go_wp2
                  refine bodyPost_ret (v := .tuple #[.agg #[.string ⟨#[]⟩, .string ⟨#[]⟩, .int .i64 0, .slice none 0 0, .slice none 0 0], .int .i64 400]) (by simp [results, Tryz.results64, go_sem, r0, r1, r2, r3, r4]) rfl ⟨rfl, HB'.out⟩
                · rw [if_neg (by decide)]
                  by_cases hM : M = 1
                  · rw [if_neg (fun k => k hM)]
                    subst hM
                    by_cases hm : 1 < mi
                    · rw [if_pos hm]
                      have hmB : decide ((1 : Int) < mi) = true := decide_eq_true hm
                      clear hm
                      go_enter Tryz.func64, Tryz.ntmps64
                      go_wp2_with fail
                      refine H1.out.mono ?_
                      rintro e w1 ⟨b, c, rfl, I0⟩
                      have s0 := I0.c0
                      have s1 := I0.c1
                      have s2 := I0.c2
                      clear H1
                      go_wp2_with fail
                      refine (HK.out _).mono ?_
                      rintro e w2 ⟨rfl, rfl⟩
                      go_wp2_with fail
                      refine (HG.out _).mono ?_
                      rintro e w3 ⟨rfl, rfl⟩
                      go_wp2_with fail
                      refine (HV.out _).mono ?_
                      rintro e w4 ⟨rfl, B4⟩
                      have I1 := I0.next B4
                      have t0 := I1.c0
                      have t1 := I1.c1
                      clear B4
                      have HW := five_cells I1.own (.string ⟨#[]⟩) (.string ⟨#[]⟩) (.int .i64 0) (.slice none 0 0) (.slice none 0 0)
                      have HB := five_below (.string ⟨#[]⟩) (.string ⟨#[]⟩) (.int .i64 0) (.slice none 0 0) (.slice none 0 0) I1.below (Nat.le_refl _)
                      have a0 := tblk_cell (i := 0) I1.own rfl
                      have z0 := lblk_z (i := 0) I1.own
                      have a1 := tblk_cell (i := 1) I1.own rfl
                      have z1 := lblk_z (i := 1) I1.own
                      have a2 := tblk_cell (i := 2) I1.own rfl
                      have z2 := lblk_z (i := 2) I1.own
                      have a3 := tblk_cell (i := 3) I1.own rfl
                      have z3 := lblk_z (i := 3) I1.own
                      have a4 := tblk_cell (i := 4) I1.own rfl
                      have z4 := lblk_z (i := 4) I1.own
                      have r0 := tblk_cell (i := 0) HW rfl
                      have r1 := tblk_cell (i := 1) HW rfl
                      have r2 := tblk_cell (i := 2) HW rfl
                      have r3 := tblk_cell (i := 3) HW rfl
                      have r4 := tblk_cell (i := 4) HW rfl
                      unfold five at r0 r1 r2 r3 r4 HB
                      have HB' : Hid _ := HB
                      clear HB HW
                      go_wp2
                      refine bodyPost_ret (v := .tuple #[.agg #[.string ⟨#[]⟩, .string ⟨#[]⟩, .int .i64 0, .slice none 0 0, .slice none 0 0], .int .i64 505]) (by simp [results, Tryz.results64, go_sem, r0, r1, r2, r3, r4]) rfl ⟨rfl, HB'.out⟩
                    · rw [if_neg hm]
                      have hmB : decide ((1 : Int) < mi) = false := decide_eq_false hm
                      clear hm
                      go_enter Tryz.func64, Tryz.ntmps64
                      go_wp2_with fail
                      refine H1.out.mono ?_
                      rintro e w1 ⟨b, c, rfl, I0⟩
                      have s0 := I0.c0
                      have s1 := I0.c1
                      have s2 := I0.c2
                      clear H1
                      go_wp2_with fail
                      refine (HK.out _).mono ?_
                      rintro e w2 ⟨rfl, rfl⟩
                      go_wp2_with fail
                      refine (HG.out _).mono ?_
                      rintro e w3 ⟨rfl, rfl⟩
                      go_wp2_with fail
                      refine (HV.out _).mono ?_
                      rintro e w4 ⟨rfl, B4⟩
                      have I1 := I0.next B4
                      have t0 := I1.c0
                      have t1 := I1.c1
                      clear B4
                      have nb := I0.ne
                      have nb' : ¬ w.heap.size = b := fun e => nb e.symm
                      have d0 := tblk_cell (i := 0) I1.own rfl
                      have y0 := lblk_z (i := 0) I1.own
                      have d1 := tblk_cell (i := 1) I1.own rfl
                      have y1 := lblk_z (i := 1) I1.own
                      have d2 := tblk_cell (i := 2) I1.own rfl
                      have y2 := lblk_z (i := 2) I1.own
                      have d3 := tblk_cell (i := 3) I1.own rfl
                      have y3 := lblk_z (i := 3) I1.own
                      have d4 := tblk_cell (i := 4) I1.own rfl
                      have y4 := lblk_z (i := 4) I1.own
                      go_wp2_with fail
                      go_region_held3 (fun W => W.cell? ⟨b, 0, none⟩ = some (.string p0) ∧ W.cell? ⟨b, 1, none⟩ = some (.string p1)) (go_keep) (fail)
                      have HW := five_cells I1.own (.string p0) (.string p1) (.int .i64 mi) (.slice none 0 0) (.slice none 0 0)
                      have HB := five_below (.string p0) (.string p1) (.int .i64 mi) (.slice none 0 0) (.slice none 0 0) I1.below (Nat.le_refl _)
                      have r0 := tblk_cell (i := 0) HW rfl
                      have r1 := tblk_cell (i := 1) HW rfl
                      have r2 := tblk_cell (i := 2) HW rfl
                      have r3 := tblk_cell (i := 3) HW rfl
                      have r4 := tblk_cell (i := 4) HW rfl
                      unfold five at r0 r1 r2 r3 r4 HB
                      have HB' : Hid _ := HB
                      clear HB HW
                      go_wp2
                      refine bodyPost_ret (v := .tuple #[.agg #[.string p0, .string p1, .int .i64 mi, .slice none 0 0, .slice none 0 0], .int .i64 0]) (by simp [results, Tryz.results64, go_sem, r0, r1, r2, r3, r4]) rfl ⟨rfl, HB'.out.drew⟩
                  · rw [if_pos hM]
                    have hMB : (M != 1) = true := by simpa using hM
                    clear hM
                    go_enter Tryz.func64, Tryz.ntmps64
                    go_wp2_with fail
                    refine H1.out.mono ?_
                    rintro e w1 ⟨b, c, rfl, I0⟩
                    have s0 := I0.c0
                    have s1 := I0.c1
                    have s2 := I0.c2
                    clear H1
                    go_wp2_with fail
                    refine (HK.out _).mono ?_
                    rintro e w2 ⟨rfl, rfl⟩
                    go_wp2_with fail
                    refine (HG.out _).mono ?_
                    rintro e w3 ⟨rfl, rfl⟩
                    go_wp2_with fail
                    refine (HV.out _).mono ?_
                    rintro e w4 ⟨rfl, B4⟩
                    have I1 := I0.next B4
                    have t0 := I1.c0
                    have t1 := I1.c1
                    clear B4
                    have HW := five_cells I1.own (.string ⟨#[]⟩) (.string ⟨#[]⟩) (.int .i64 0) (.slice none 0 0) (.slice none 0 0)
                    have HB := five_below (.string ⟨#[]⟩) (.string ⟨#[]⟩) (.int .i64 0) (.slice none 0 0) (.slice none 0 0) I1.below (Nat.le_refl _)
                    have a0 := tblk_cell (i := 0) I1.own rfl
                    have z0 := lblk_z (i := 0) I1.own
                    have a1 := tblk_cell (i := 1) I1.own rfl
                    have z1 := lblk_z (i := 1) I1.own
                    have a2 := tblk_cell (i := 2) I1.own rfl
                    have z2 := lblk_z (i := 2) I1.own
                    have a3 := tblk_cell (i := 3) I1.own rfl
                    have z3 := lblk_z (i := 3) I1.own
                    have a4 := tblk_cell (i := 4) I1.own rfl
                    have z4 := lblk_z (i := 4) I1.own
                    have r0 := tblk_cell (i := 0) HW rfl
                    have r1 := tblk_cell (i := 1) HW rfl
                    have r2 := tblk_cell (i := 2) HW rfl
                    have r3 := tblk_cell (i := 3) HW rfl
                    have r4 := tblk_cell (i := 4) HW rfl
                    unfold five at r0 r1 r2 r3 r4 HB
                    have HB' : Hid _ := HB
                    clear HB HW
                    go_wp2
                    refine bodyPost_ret (v := .tuple #[.agg #[.string ⟨#[]⟩, .string ⟨#[]⟩, .int .i64 0, .slice none 0 0, .slice none 0 0], .int .i64 505]) (by simp [results, Tryz.results64, go_sem, r0, r1, r2, r3, r4]) rfl ⟨rfl, HB'.out⟩
        · rw [if_neg (fun k => by cases k.1)]
          have n47 : ((p1[0].toNat : Int) != 47) = false := by unfold bne; rw [h47]; rfl
          by_cases h512 : 512 < p1.size
          · rw [if_pos h512]
            have hlB : decide ((512 : Int) < (p1.size : Int)) = true := decide_eq_true (by omega)
            clear h512
            go_enter Tryz.func64, Tryz.ntmps64
            go_wp2_with fail
            refine H1.out.mono ?_
            rintro e w1 ⟨b, c, rfl, I0⟩
            have s0 := I0.c0
            have s1 := I0.c1
            have s2 := I0.c2
            clear H1
            go_wp2_with fail
            refine (HK.out _).mono ?_
            rintro e w2 ⟨rfl, rfl⟩
            go_wp2_with fail
            refine (HG.out _).mono ?_
            rintro e w3 ⟨rfl, rfl⟩
            have HW := five_cells I0.own (.string ⟨#[]⟩) (.string ⟨#[]⟩) (.int .i64 0) (.slice none 0 0) (.slice none 0 0)
            have HB := five_below (.string ⟨#[]⟩) (.string ⟨#[]⟩) (.int .i64 0) (.slice none 0 0) (.slice none 0 0) I0.below (Nat.le_refl _)
            have a0 := tblk_cell (i := 0) I0.own rfl
            have z0 := lblk_z (i := 0) I0.own
            have a1 := tblk_cell (i := 1) I0.own rfl
            have z1 := lblk_z (i := 1) I0.own
            have a2 := tblk_cell (i := 2) I0.own rfl
            have z2 := lblk_z (i := 2) I0.own
            have a3 := tblk_cell (i := 3) I0.own rfl
            have z3 := lblk_z (i := 3) I0.own
            have a4 := tblk_cell (i := 4) I0.own rfl
            have z4 := lblk_z (i := 4) I0.own
            have r0 := tblk_cell (i := 0) HW rfl
            have r1 := tblk_cell (i := 1) HW rfl
            have r2 := tblk_cell (i := 2) HW rfl
            have r3 := tblk_cell (i := 3) HW rfl
            have r4 := tblk_cell (i := 4) HW rfl
            unfold five at r0 r1 r2 r3 r4 HB
            have HB' : Hid _ := HB
            clear HB HW
            go_wp2
            refine bodyPost_ret (v := .tuple #[.agg #[.string ⟨#[]⟩, .string ⟨#[]⟩, .int .i64 0, .slice none 0 0, .slice none 0 0], .int .i64 414]) (by simp [results, Tryz.results64, go_sem, r0, r1, r2, r3, r4]) rfl ⟨rfl, HB'.out⟩
          · rw [if_neg h512]
            have hlB : decide ((512 : Int) < (p1.size : Int)) = false := decide_eq_false (by omega)
            clear h512
            cases ok
            · rw [if_pos rfl]
              go_enter Tryz.func64, Tryz.ntmps64
              go_wp2_with fail
              refine H1.out.mono ?_
              rintro e w1 ⟨b, c, rfl, I0⟩
              have s0 := I0.c0
              have s1 := I0.c1
              have s2 := I0.c2
              clear H1
              go_wp2_with fail
              refine (HK.out _).mono ?_
              rintro e w2 ⟨rfl, rfl⟩
              go_wp2_with fail
              refine (HG.out _).mono ?_
              rintro e w3 ⟨rfl, rfl⟩
              go_wp2_with fail
              refine (HV.out _).mono ?_
              rintro e w4 ⟨rfl, B4⟩
              have I1 := I0.next B4
              have t0 := I1.c0
              have t1 := I1.c1
              clear B4
              have HW := five_cells I1.own (.string ⟨#[]⟩) (.string ⟨#[]⟩) (.int .i64 0) (.slice none 0 0) (.slice none 0 0)
              have HB := five_below (.string ⟨#[]⟩) (.string ⟨#[]⟩) (.int .i64 0) (.slice none 0 0) (.slice none 0 0) I1.below (Nat.le_refl _)
              have a0 := tblk_cell (i := 0) I1.own rfl
              have z0 := lblk_z (i := 0) I1.own
              have a1 := tblk_cell (i := 1) I1.own rfl
              have z1 := lblk_z (i := 1) I1.own
              have a2 := tblk_cell (i := 2) I1.own rfl
              have z2 := lblk_z (i := 2) I1.own
              have a3 := tblk_cell (i := 3) I1.own rfl
              have z3 := lblk_z (i := 3) I1.own
              have a4 := tblk_cell (i := 4) I1.own rfl
              have z4 := lblk_z (i := 4) I1.own
              have r0 := tblk_cell (i := 0) HW rfl
              have r1 := tblk_cell (i := 1) HW rfl
              have r2 := tblk_cell (i := 2) HW rfl
              have r3 := tblk_cell (i := 3) HW rfl
              have r4 := tblk_cell (i := 4) HW rfl
              unfold five at r0 r1 r2 r3 r4 HB
              have HB' : Hid _ := HB
              clear HB HW
              go_wp2
              refine bodyPost_ret (v := .tuple #[.agg #[.string ⟨#[]⟩, .string ⟨#[]⟩, .int .i64 0, .slice none 0 0, .slice none 0 0], .int .i64 400]) (by simp [results, Tryz.results64, go_sem, r0, r1, r2, r3, r4]) rfl ⟨rfl, HB'.out⟩
            · rw [if_neg (by decide)]
              by_cases hM : M = 1
              · rw [if_neg (fun k => k hM)]
                subst hM
                by_cases hm : 1 < mi
                · rw [if_pos hm]
                  have hmB : decide ((1 : Int) < mi) = true := decide_eq_true hm
                  clear hm
                  go_enter Tryz.func64, Tryz.ntmps64
                  go_wp2_with fail
                  refine H1.out.mono ?_
                  rintro e w1 ⟨b, c, rfl, I0⟩
                  have s0 := I0.c0
                  have s1 := I0.c1
                  have s2 := I0.c2
                  clear H1
                  go_wp2_with fail
                  refine (HK.out _).mono ?_
                  rintro e w2 ⟨rfl, rfl⟩
                  go_wp2_with fail
                  refine (HG.out _).mono ?_
                  rintro e w3 ⟨rfl, rfl⟩
                  go_wp2_with fail
                  refine (HV.out _).mono ?_
                  rintro e w4 ⟨rfl, B4⟩
                  have I1 := I0.next B4
                  have t0 := I1.c0
                  have t1 := I1.c1
                  clear B4
                  have HW := five_cells I1.own (.string ⟨#[]⟩) (.string ⟨#[]⟩) (.int .i64 0) (.slice none 0 0) (.slice none 0 0)
                  have HB := five_below (.string ⟨#[]⟩) (.string ⟨#[]⟩) (.int .i64 0) (.slice none 0 0) (.slice none 0 0) I1.below (Nat.le_refl _)
                  have a0 := tblk_cell (i := 0) I1.own rfl
                  have z0 := lblk_z (i := 0) I1.own
                  have a1 := tblk_cell (i := 1) I1.own rfl
                  have z1 := lblk_z (i := 1) I1.own
                  have a2 := tblk_cell (i := 2) I1.own rfl
                  have z2 := lblk_z (i := 2) I1.own
                  have a3 := tblk_cell (i := 3) I1.own rfl
                  have z3 := lblk_z (i := 3) I1.own
                  have a4 := tblk_cell (i := 4) I1.own rfl
                  have z4 := lblk_z (i := 4) I1.own
                  have r0 := tblk_cell (i := 0) HW rfl
                  have r1 := tblk_cell (i := 1) HW rfl
                  have r2 := tblk_cell (i := 2) HW rfl
                  have r3 := tblk_cell (i := 3) HW rfl
                  have r4 := tblk_cell (i := 4) HW rfl
                  unfold five at r0 r1 r2 r3 r4 HB
                  have HB' : Hid _ := HB
                  clear HB HW
                  go_wp2
                  refine bodyPost_ret (v := .tuple #[.agg #[.string ⟨#[]⟩, .string ⟨#[]⟩, .int .i64 0, .slice none 0 0, .slice none 0 0], .int .i64 505]) (by simp [results, Tryz.results64, go_sem, r0, r1, r2, r3, r4]) rfl ⟨rfl, HB'.out⟩
                · rw [if_neg hm]
                  have hmB : decide ((1 : Int) < mi) = false := decide_eq_false hm
                  clear hm
                  go_enter Tryz.func64, Tryz.ntmps64
                  go_wp2_with fail
                  refine H1.out.mono ?_
                  rintro e w1 ⟨b, c, rfl, I0⟩
                  have s0 := I0.c0
                  have s1 := I0.c1
                  have s2 := I0.c2
                  clear H1
                  go_wp2_with fail
                  refine (HK.out _).mono ?_
                  rintro e w2 ⟨rfl, rfl⟩
                  go_wp2_with fail
                  refine (HG.out _).mono ?_
                  rintro e w3 ⟨rfl, rfl⟩
                  go_wp2_with fail
                  refine (HV.out _).mono ?_
                  rintro e w4 ⟨rfl, B4⟩
                  have I1 := I0.next B4
                  have t0 := I1.c0
                  have t1 := I1.c1
                  clear B4
                  have nb := I0.ne
                  have nb' : ¬ w.heap.size = b := fun e => nb e.symm
                  have d0 := tblk_cell (i := 0) I1.own rfl
                  have y0 := lblk_z (i := 0) I1.own
                  have d1 := tblk_cell (i := 1) I1.own rfl
                  have y1 := lblk_z (i := 1) I1.own
                  have d2 := tblk_cell (i := 2) I1.own rfl
                  have y2 := lblk_z (i := 2) I1.own
                  have d3 := tblk_cell (i := 3) I1.own rfl
                  have y3 := lblk_z (i := 3) I1.own
                  have d4 := tblk_cell (i := 4) I1.own rfl
                  have y4 := lblk_z (i := 4) I1.own
                  go_wp2_with fail
                  go_region_held3 (fun W => W.cell? ⟨b, 0, none⟩ = some (.string p0) ∧ W.cell? ⟨b, 1, none⟩ = some (.string p1)) (go_keep) (fail)
                  have HW := five_cells I1.own (.string p0) (.string p1) (.int .i64 mi) (.slice none 0 0) (.slice none 0 0)
                  have HB := five_below (.string p0) (.string p1) (.int .i64 mi) (.slice none 0 0) (.slice none 0 0) I1.below (Nat.le_refl _)
                  have r0 := tblk_cell (i := 0) HW rfl
                  have r1 := tblk_cell (i := 1) HW rfl
                  have r2 := tblk_cell (i := 2) HW rfl
                  have r3 := tblk_cell (i := 3) HW rfl
                  have r4 := tblk_cell (i := 4) HW rfl
                  unfold five at r0 r1 r2 r3 r4 HB
                  have HB' : Hid _ := HB
                  clear HB HW
                  go_wp2
                  refine bodyPost_ret (v := .tuple #[.agg #[.string p0, .string p1, .int .i64 mi, .slice none 0 0, .slice none 0 0], .int .i64 0]) (by simp [results, Tryz.results64, go_sem, r0, r1, r2, r3, r4]) rfl ⟨rfl, HB'.out.drew⟩
              · rw [if_pos hM]
                have hMB : (M != 1) = true := by simpa using hM
                clear hM
                go_enter Tryz.func64, Tryz.ntmps64
                go_wp2_with fail
                refine H1.out.mono ?_
                rintro e w1 ⟨b, c, rfl, I0⟩
                have s0 := I0.c0
                have s1 := I0.c1
                have s2 := I0.c2
                clear H1
                go_wp2_with fail
                refine (HK.out _).mono ?_
                rintro e w2 ⟨rfl, rfl⟩
                go_wp2_with fail
                refine (HG.out _).mono ?_
                rintro e w3 ⟨rfl, rfl⟩
                go_wp2_with fail
                refine (HV.out _).mono ?_
                rintro e w4 ⟨rfl, B4⟩
                have I1 := I0.next B4
                have t0 := I1.c0
                have t1 := I1.c1
                clear B4
                have HW := five_cells I1.own (.string ⟨#[]⟩) (.string ⟨#[]⟩) (.int .i64 0) (.slice none 0 0) (.slice none 0 0)
                have HB := five_below (.string ⟨#[]⟩) (.string ⟨#[]⟩) (.int .i64 0) (.slice none 0 0) (.slice none 0 0) I1.below (Nat.le_refl _)
                have a0 := tblk_cell (i := 0) I1.own rfl
                have z0 := lblk_z (i := 0) I1.own
                have a1 := tblk_cell (i := 1) I1.own rfl
                have z1 := lblk_z (i := 1) I1.own
                have a2 := tblk_cell (i := 2) I1.own rfl
                have z2 := lblk_z (i := 2) I1.own
                have a3 := tblk_cell (i := 3) I1.own rfl
                have z3 := lblk_z (i := 3) I1.own
                have a4 := tblk_cell (i := 4) I1.own rfl
                have z4 := lblk_z (i := 4) I1.own
                have r0 := tblk_cell (i := 0) HW rfl
                have r1 := tblk_cell (i := 1) HW rfl
                have r2 := tblk_cell (i := 2) HW rfl
                have r3 := tblk_cell (i := 3) HW rfl
                have r4 := tblk_cell (i := 4) HW rfl
                unfold five at r0 r1 r2 r3 r4 HB
                have HB' : Hid _ := HB
                clear HB HW
                go_wp2
                refine bodyPost_ret (v := .tuple #[.agg #[.string ⟨#[]⟩, .string ⟨#[]⟩, .int .i64 0, .slice none 0 0, .slice none 0 0], .int .i64 505]) (by simp [results, Tryz.results64, go_sem, r0, r1, r2, r3, r4]) rfl ⟨rfl, HB'.out⟩

set_option maxRecDepth 100000 in
set_option maxHeartbeats 4000000 in
theorem rreq_other (s : ByteArray) (w : World) (hs : s.size ≤ 4294967281) (hp : ¬ (partsB s).length = 3) :
    Calls Tryz.prog 64 #[.string s] w fun e w' => e = .returned (.tuple #[rqV (rqNo 400), .int .i64 (rqNo 400).code]) ∧ Below w.heap.size w w' := by
  have C0 : Below w.heap.size w (w.alloc (.cells #[.string ⟨#[]⟩, .string ⟨#[]⟩, .int .i64 0, .slice none 0 0, .slice none 0 0] 26)) := (Below.refl _ _).alloc (Nat.le_refl _) _
  have hg0 := tblk_new w (.cells #[.string ⟨#[]⟩, .string ⟨#[]⟩, .int .i64 0, .slice none 0 0, .slice none 0 0] 26)
  have H1 : Hid (Calls Tryz.prog 111 #[.string s] (w.alloc (.cells #[.string ⟨#[]⟩, .string ⟨#[]⟩, .int .i64 0, .slice none 0 0, .slice none 0 0] 26)) fun e w' => ∃ b c, e = .returned (.slice (some ⟨b, 0, none⟩) (partsB s).length c) ∧ Below w.heap.size w w' ∧ w'.heap[w.heap.size]? = some (.cells #[.string ⟨#[]⟩, .string ⟨#[]⟩, .int .i64 0, .slice none 0 0, .slice none 0 0] 26)) := by
    refine (rparts_any s _ hs).mono ?_
    rintro e w' ⟨g, c, he, hO, B⟩
    exact ⟨g, c, he, C0.trans (B.mono C0.size), tblk_below hg0 B⟩
  have hn : (((partsB s).length : Int) != 3) = true := by
    simp
    omega
  clear hp hs hg0 C0
  generalize (partsB s).length = n at *
  go_enter Tryz.func64, Tryz.ntmps64
  go_wp2_with fail
  refine H1.out.mono ?_
  rintro e w1 ⟨b, c, rfl, C1, hg1⟩
  clear H1
  have HW := five_cells hg1 (.string ⟨#[]⟩) (.string ⟨#[]⟩) (.int .i64 0) (.slice none 0 0) (.slice none 0 0)
  have HB := five_below (.string ⟨#[]⟩) (.string ⟨#[]⟩) (.int .i64 0) (.slice none 0 0) (.slice none 0 0) C1 (Nat.le_refl _)
  have a0 := tblk_cell (i := 0) hg1 rfl
  have z0 := lblk_z (i := 0) hg1
  have a1 := tblk_cell (i := 1) hg1 rfl
  have z1 := lblk_z (i := 1) hg1
  have a2 := tblk_cell (i := 2) hg1 rfl
  have z2 := lblk_z (i := 2) hg1
  have a3 := tblk_cell (i := 3) hg1 rfl
  have z3 := lblk_z (i := 3) hg1
  have a4 := tblk_cell (i := 4) hg1 rfl
  have z4 := lblk_z (i := 4) hg1
  have r0 := tblk_cell (i := 0) HW rfl
  have r1 := tblk_cell (i := 1) HW rfl
  have r2 := tblk_cell (i := 2) HW rfl
  have r3 := tblk_cell (i := 3) HW rfl
  have r4 := tblk_cell (i := 4) HW rfl
  unfold five at r0 r1 r2 r3 r4 HB
  have HB' : Hid _ := HB
  clear HB HW
  go_wp2
  refine bodyPost_ret (v := .tuple #[.agg #[.string ⟨#[]⟩, .string ⟨#[]⟩, .int .i64 0, .slice none 0 0, .slice none 0 0], .int .i64 400]) (by simp [results, Tryz.results64, go_sem, r0, r1, r2, r3, r4]) rfl ⟨rfl, HB'.out⟩

theorem rreq_any (s : ByteArray) (w : World) (hs : s.size ≤ 4294967281) :
    Calls Tryz.prog 64 #[.string s] w fun e w' => e = .returned (.tuple #[rqV (refQ s), .int .i64 (refQ s).code]) ∧ Below w.heap.size w w' := by
  unfold refQ
  split
  · rename_i p0 p1 p2 h
    exact rreq_three p0 p1 p2 s w hs h
  · rename_i h
    refine rreq_other s w hs ?_
    intro h3
    match hl : partsB s, h3 with
    | [a, b, c], _ => exact h a b c hl
end Go.Proofs.YtkdnckkdofoaoaaGreatDoor

/- A request's line is what the reference says it is. -/
namespace Go.Proofs.YtkdnckkdofoaoaaGreatDoor
open Go.RowKit
set_option linter.unusedVariables false

def vF (x y : Fin 10) : List UInt8 := [72, 84, 84, 80, 47, UInt8.ofNat (48 + x.val), 46, UInt8.ofNat (48 + y.val)]
theorem v_min : ∀ x y : Fin 10, (minP ⟨(vF x y).toArray⟩).2 = (decide (x.val = 1) && decide (y.val ≤ 1)) ∧ ((minP ⟨(vF x y).toArray⟩).2 = true → (minP ⟨(vF x y).toArray⟩).1 = (y.val : Int)) := by decide +kernel
theorem v_ver : ∀ x y : Fin 10, verP ⟨(vF x y).toArray⟩ = true := by decide +kernel
theorem v_ref : ∀ x y : Fin 10, rverL (vF x y) = ((x.val : Int), (y.val : Int), true) := by decide +kernel
theorem dig_fin {a : UInt8} (h : spanP 48 57 (a.toNat : Int) = true) : ∃ x : Fin 10, a = UInt8.ofNat (48 + x.val) := by
  have k : ∀ n : Fin 256, spanP 48 57 ((UInt8.ofNat n.val).toNat : Int) = true → ∃ x : Fin 10, UInt8.ofNat n.val = UInt8.ofNat (48 + x.val) := by decide +kernel
  have q := k ⟨a.toNat, a.toNat_lt⟩
  simp only [UInt8.ofNat_toNat] at q
  exact q h
theorem rver_form {l : List UInt8} (h : (rverL l).2.2 = true) : ∃ x y, l = vF x y := by
  unfold rverL at h
  split at h
  · rename_i a b c d e f g i
    split at h
    · rename_i hc
      obtain ⟨h1, h2, h3, h4⟩ := hc
      obtain ⟨x, rfl⟩ := dig_fin h2
      obtain ⟨y, rfl⟩ := dig_fin h4
      have e1 := eq_of_beq h1
      simp only [List.cons.injEq, and_true] at e1
      obtain ⟨rfl, rfl, rfl, rfl, rfl⟩ := e1
      subst h3
      exact ⟨x, y, rfl⟩
    · cases h
  · cases h
theorem ver_form {p : ByteArray} (h : verP p = true) : ∃ x y, p.data.toList = vF x y := by
  unfold verP at h
  rw [Bool.and_eq_true] at h
  obtain ⟨h1, h2⟩ := h
  have hc : cutP p http = p.extract 5 p.size := by unfold cutP; rw [if_pos h1]; rfl
  rw [hc] at h2
  unfold hasP at h1
  rw [Bool.and_eq_true] at h1
  obtain ⟨h3, h4⟩ := h1
  have e4 := eq_of_beq h4
  rw [ByteArray.toList_eq, ByteArray.toList_eq] at e4
  have e5 : (p.extract 0 5).data.toList = p.data.toList.take 5 := by rw [Lib.extract_data]; rfl
  have e6 : (p.extract 5 p.size).data.toList = p.data.toList.drop 5 := by
    rw [Lib.extract_data, List.take_of_length_le (by rw [List.length_drop]; exact Nat.le_refl _)]
  rw [e6] at h2
  have e7 : p.data.toList.take 5 = [72, 84, 84, 80, 47] := by
    rw [← e5]
    exact e4
  unfold verN at h2
  split at h2
  · rename_i a b c e8
    rw [Bool.and_eq_true, Bool.and_eq_true] at h2
    obtain ⟨ha, hb, hc⟩ := h2
    obtain ⟨x, rfl⟩ := dig_fin (show spanP 48 57 (a.toNat : Int) = true from ha)
    obtain ⟨y, rfl⟩ := dig_fin (show spanP 48 57 (c.toNat : Int) = true from hc)
    have hb' : b = 46 := UInt8.toNat_inj.1 (by have e : (46 : UInt8).toNat = 46 := rfl; have k := eq_of_beq hb; omega)
    subst hb'
    refine ⟨x, y, ?_⟩
    rw [← List.take_append_drop 5 p.data.toList, e7, e8]
    rfl
  · cases h2
theorem three_ref (p0 p1 p2 : ByteArray) : rq3 p0 p1 p2 = rqR p0 p1 p2 := by
  have hver : (if verP p2 = false then rqNo 400 else if (minP p2).2 = false then rqNo 505 else (⟨p0, p1, (minP p2).1, 0⟩ : Rq)) =
      (if (rverL p2.data.toList).2.2 = false then rqNo 400 else if ¬ (rverL p2.data.toList).1 = 1 then rqNo 505 else if 1 < (rverL p2.data.toList).2.1 then rqNo 505 else ⟨p0, p1, (rverL p2.data.toList).2.1, 0⟩) := by
    by_cases hf : ∃ x y, p2.data.toList = vF x y
    · obtain ⟨x, y, e⟩ := hf
      obtain rfl : p2 = ⟨(vF x y).toArray⟩ := ba_eq (by rw [e])
      have k1 := v_min x y
      have k2 := v_ver x y
      have k3 := v_ref x y
      have e9 : (⟨(vF x y).toArray⟩ : ByteArray).data.toList = vF x y := rfl
      rw [e9, k3, k2]
      simp only
      rw [if_neg (show ¬ ((true : Bool) = false) by decide), if_neg (show ¬ ((true : Bool) = false) by decide)]
      by_cases hx : x.val = 1
      · rw [if_neg (show ¬ ¬ ((x.val : Int) = 1) from fun k => k (by omega))]
        by_cases hy : y.val ≤ 1
        · have q : (minP ⟨(vF x y).toArray⟩).2 = true := by rw [k1.1, decide_eq_true hx, decide_eq_true hy]; rfl
          rw [if_neg (by rw [q]; decide), if_neg (by omega), k1.2 q]
        · have q : (minP ⟨(vF x y).toArray⟩).2 = false := by rw [k1.1, decide_eq_false hy, Bool.and_false]
          rw [if_pos q, if_pos (by omega)]
      · have q : (minP ⟨(vF x y).toArray⟩).2 = false := by rw [k1.1, decide_eq_false hx, Bool.false_and]
        rw [if_pos q, if_pos (by omega)]
    · have k1 : verP p2 = false := by
        cases h : verP p2
        · rfl
        · exact absurd (ver_form h) hf
      have k2 : (rverL p2.data.toList).2.2 = false := by
        cases h : (rverL p2.data.toList).2.2
        · rfl
        · exact absurd (rver_form h) hf
      rw [if_pos k1, if_pos k2]
  unfold rq3 rqR mthP tarP
  rw [hver]
  generalize (if (rverL p2.data.toList).2.2 = false then rqNo 400 else if ¬ (rverL p2.data.toList).1 = 1 then rqNo 505 else if 1 < (rverL p2.data.toList).2.1 then rqNo 505 else ⟨p0, p1, (rverL p2.data.toList).2.1, 0⟩) = E
  generalize (allB tokP p0.data.toList && decide (0 < p0.size)) = tk
  generalize tgtP p1 = tg
  generalize decide (p1.data.toList.head? = some 47) = hd
  generalize eqS p1 ⟨#[42]⟩ = st
  generalize eqS p0 ⟨#[79, 80, 84, 73, 79, 78, 83]⟩ = op
  by_cases h20 : 20 < p0.size
  · rw [decide_eq_false (show ¬ p0.size ≤ 20 by omega), Bool.false_and, if_pos rfl, if_pos h20]
    cases tk <;> simp
  · rw [decide_eq_true (show p0.size ≤ 20 by omega), Bool.true_and, if_neg h20]
    cases tk <;> cases tg <;> cases hd <;> cases st <;> cases op <;> simp
theorem req_ref (s : ByteArray) : rqP s = refQ s := by
  unfold rqP refQ
  rcases four_parts s with h | ⟨h1, h2⟩
  · rw [h]
    generalize partsB s = P
    match P with
    | [] => rfl
    | [_] => rfl
    | [_, _] => rfl
    | [p0, p1, p2] => exact three_ref p0 p1 p2
    | _ :: _ :: _ :: _ :: _ => rfl
  · split
    · rename_i p0 p1 p2 h
      rw [h] at h1
      cases h1
    · split
      · rename_i p0 p1 p2 h
        rw [h] at h2
        simp at h2
      · rfl
end Go.Proofs.YtkdnckkdofoaoaaGreatDoor
