/- The reference's reading of a chunk's size. -/
import Derived.Test.YtbmpfjmnedlahabDoorChkJ
import Derived.Test.YtbmpfjmnedlahabDoorSgnD
import Derived.Test.YtbmpfjmnedlahabDoorRHex
import Derived.Test.YtbmpfjmnedlahabDoorRefA
import Derived.Lib.SplitLaws
namespace Go.Proofs.YtbmpfjmnedlahabDoor
open Go.RowKit
set_option linter.unusedVariables false

/-- How many bytes stand ahead of the first ; (59). -/
def f59 : List UInt8 → Nat
  | [] => 0
  | b :: l => if b = 59 then 0 else f59 l + 1
theorem f59_le : ∀ l : List UInt8, f59 l ≤ l.length
  | [] => Nat.le_refl _
  | b :: l => by
    rw [f59]
    have := f59_le l
    split
    · exact Nat.zero_le _
    · rw [List.length_cons]; omega
theorem f59_cut : ∀ l : List UInt8, (∀ b ∈ l.take (f59 l), b ≠ 59) ∧ (f59 l < l.length → l = l.take (f59 l) ++ 59 :: l.drop (f59 l + 1))
  | [] => ⟨(fun b h => by cases h), fun h => by simp at h⟩
  | b :: l => by
    have ih := f59_cut l
    rw [f59]
    by_cases hb : b = 59
    · rw [if_pos hb]
      exact ⟨(fun x h => by cases h), fun _ => by rw [hb]; rfl⟩
    · rw [if_neg hb, List.take_succ_cons, List.drop_succ_cons]
      refine ⟨fun x hx => ?_, fun h => ?_⟩
      · cases hx with
        | head => exact hb
        | tail _ hx => exact ih.1 x hx
      · rw [List.cons_append, ← ih.2 (by rw [List.length_cons] at h; omega)]
theorem cut_f59 (l : List UInt8) : (Lib.cut l [59]).1 = l.take (f59 l) ∧ (f59 l < l.length → (Lib.cut l [59]).2.1 = l.drop (f59 l + 1)) ∧ (¬ f59 l < l.length → (Lib.cut l [59]).2.1 = []) := by
  obtain ⟨h1, h2⟩ := f59_cut l
  by_cases h : f59 l < l.length
  · have e := cut_some 59 (l.take (f59 l)) (l.drop (f59 l + 1)) h1
    rw [← h2 h] at e
    rw [e]
    exact ⟨rfl, fun _ => rfl, fun c => absurd h c⟩
  · have hf : f59 l = l.length := by have := f59_le l; omega
    rw [hf, List.take_length] at h1
    have e := cut_none 59 l h1
    rw [e, hf, List.take_length]
    exact ⟨rfl, fun c => absurd c (Nat.lt_irrefl _), fun _ => rfl⟩
theorem f59_step (s : ByteArray) (k : Nat) (h : k < s.size) : k + f59 (s.data.toList.drop k) = if s[k] = 59 then k else (k + 1) + f59 (s.data.toList.drop (k + 1)) := by
  have hk : k < s.data.toList.length := h
  rw [List.drop_eq_getElem_cons hk, f59, show s.data.toList[k] = s[k] from rfl]
  split <;> omega
theorem trimR_step (l : List UInt8) (b : UInt8) (hb : blk b = true) : Lib.trimRightS (l ++ [b]) [32, 9] = Lib.trimRightS l [32, 9] := by
  unfold Lib.trimRightS
  rw [List.reverse_append, List.reverse_singleton, List.singleton_append, List.dropWhile_cons, if_pos (show ([32, 9] : List UInt8).contains b = true from hb)]
theorem trimR_stop (l : List UInt8) (b : UInt8) (hb : blk b = false) : Lib.trimRightS (l ++ [b]) [32, 9] = l ++ [b] := by
  unfold Lib.trimRightS
  rw [List.reverse_append, List.reverse_singleton, List.singleton_append, List.dropWhile_cons, if_neg (by unfold blk at hb; rw [hb]; decide)]
  simp
theorem ext_tx (s : ByteArray) (i j : Nat) : s.extract i j = tx ((s.data.toList.take j).drop i) := by
  have h := Lib.extract_data s i j
  unfold tx
  obtain ⟨⟨l⟩⟩ := s
  apply ByteArray.ext
  apply Array.toList_inj.1
  rw [h]
  simp [List.drop_take]

set_option maxRecDepth 100000 in
set_option maxHeartbeats 4000000 in
theorem rsize_any (s : ByteArray) (w : World) (hs : s.size ≤ 256) : Calls Tryd.prog 35 #[.string s] w fun e w' => e = .returned (.tuple #[.int .i64 ((szO s.data.toList).getD 0 : Nat), .bool (szO s.data.toList).isSome]) ∧ w' = w := by
  obtain ⟨Z, hZ⟩ : ∃ Z, Z = szO s.data.toList := ⟨_, rfl⟩
  rw [← hZ]
  have HZ : Hid (Z = szO s.data.toList) := hZ
  clear hZ
  go_enter Tryd.func35, Tryd.ntmps35
  go_wp2_with fail
  go_loop [4, 5] (fun ve vi => ∃ k : Nat, k ≤ s.size ∧ vi = .int .i64 ((k : Int) - 1) ∧ ve = .int .i64 (k + f59 (s.data.toList.drop k) : Nat)) (fun _ vi => (intOf vi + 1).toNat)
  case atStart => exact ⟨s.size, Nat.le_refl _, rfl, by rw [List.drop_eq_nil_of_le (show s.data.toList.length ≤ s.size from Nat.le_refl _)]; rfl⟩
  case round =>
    obtain ⟨k, hk, rfl, rfl⟩ := hrel
    by_cases hk0 : 0 < k
    · obtain ⟨j, rfl⟩ : ∃ j, k = j + 1 := ⟨k - 1, by omega⟩
      have hj : j < s.size := by omega
      have hst := f59_step s j hj
      have HST : Hid (j + f59 (s.data.toList.drop j) = if s[j] = 59 then j else (j + 1) + f59 (s.data.toList.drop (j + 1))) := hst
      have e1 : ((j + 1 : Nat) : Int) - 1 = (j : Int) := by omega
      rw [e1]
      clear hst e1
      obtain ⟨E, hE⟩ : ∃ E : Int, E = ((j + 1 + f59 (s.data.toList.drop (j + 1)) : Nat) : Int) := ⟨_, rfl⟩
      rw [← hE]
      have HE : Hid (E = ((j + 1 + f59 (s.data.toList.drop (j + 1)) : Nat) : Int)) := hE
      clear hE
      by_cases hb : s[j] = 59
      · have t1 : ((s[j].toNat : Int) == 59) = true := by rw [hb]; rfl
        have HR : Hid (((j + f59 (s.data.toList.drop j) : Nat) : Int) = (j : Int)) := by rw [Hid, HST.out, if_pos hb]
        clear hb
        go_wp2
        go_round
        case rel => exact ⟨j, by omega, rfl, by rw [HR.out]⟩
        case measure => simp [intOf]
      · have t1 : ((s[j].toNat : Int) == 59) = false := by simpa using toNat_ne 59 59 rfl hb
        have HR : Hid (((j + f59 (s.data.toList.drop j) : Nat) : Int) = E) := by rw [Hid, HST.out, if_neg hb, HE.out]
        clear hb
        go_wp2
        go_round
        case rel => exact ⟨j, by omega, rfl, by rw [HR.out]⟩
        case measure => simp [intOf]
    · obtain rfl : k = 0 := by omega
      rw [Nat.zero_add, List.drop_zero]
      obtain ⟨hc1, hc2, hc3⟩ := cut_f59 s.data.toList
      have hfl := f59_le s.data.toList
      have hsz : s.data.toList.length = s.size := rfl
      rw [hsz] at hfl hc2 hc3
      have hszO : szO s.data.toList = if allB valP (Lib.cut s.data.toList [59]).2.1 then numV 16 15 (tx (Lib.trimRightS (s.data.toList.take (f59 s.data.toList)) [32, 9])) else none := by unfold szO; rw [hc1]
      obtain ⟨TR, hTR⟩ : ∃ TR, TR = Lib.trimRightS (s.data.toList.take (f59 s.data.toList)) [32, 9] := ⟨_, rfl⟩
      rw [← hTR] at hszO
      have hW : Hid (Lib.trimRightS (s.extract 0 (f59 s.data.toList)).data.toList [32, 9] = TR) := by rw [Hid, ext_data, List.drop_zero, hTR]
      have hWs : (s.extract 0 (f59 s.data.toList)).size ≤ 256 := by
        show (s.extract 0 (f59 s.data.toList)).data.toList.length ≤ 256
        rw [ext_data, List.drop_zero, List.length_take]; omega
      have hV1 : f59 s.data.toList < s.size → (s.extract (f59 s.data.toList + 1) s.size).data.toList = (Lib.cut s.data.toList [59]).2.1 := by
        intro h
        rw [hc2 h, ext_data, List.take_of_length_le (show s.data.toList.length ≤ s.size from Nat.le_refl _)]
      have HV : Hid (f59 s.data.toList < s.size → Calls Tryd.prog 58 #[.string (s.extract (f59 s.data.toList + 1) s.size)] w fun e w' => e = .returned (.bool (allB valP (Lib.cut s.data.toList [59]).2.1)) ∧ w' = w) := by
        intro h
        have k := rValue_any (s.extract (f59 s.data.toList + 1) s.size) w (by
          show (s.extract (f59 s.data.toList + 1) s.size).data.toList.length ≤ maxLen
          rw [ext_data, List.length_drop, List.length_take]
          unfold maxLen; omega)
        rw [hV1 h] at k
        exact k
      have hVn : ¬ f59 s.data.toList < s.size → allB valP (Lib.cut s.data.toList [59]).2.1 = true := by intro h; rw [hc3 h]; rfl
      have HZ2 : Hid (Z = if allB valP (Lib.cut s.data.toList [59]).2.1 then numV 16 15 (tx TR) else none) := by rw [Hid, HZ.out, hszO]
      clear hszO hc1 hc2 hc3 hV1 hTR HZ
      generalize allB valP (Lib.cut s.data.toList [59]).2.1 = V at *
      generalize f59 s.data.toList = F at *
      clear hsz
      by_cases hF : F < s.size
      · have hF' : (F : Int) < (s.size : Int) := by omega
        have HVV := HV.out hF
        have HV3 : Hid (Calls Tryd.prog 58 #[.string (s.extract (F + 1) s.size)] w fun e w' => e = .returned (.bool V) ∧ w' = w) := HVV
        clear HVV HV hVn hF
        cases V
        · have HZN : Hid (Z = none) := by rw [Hid, HZ2.out, if_neg (by decide)]
          clear hW hWs
          go_wp2_with fail
          refine HV3.out.mono ?_
          rintro e w1 ⟨rfl, rfl⟩
          go_wp2
          go_ret2
          exact ⟨by rw [HZN.out]; rfl, rfl⟩
        · have HZN : Hid (Z = numV 16 15 (tx TR)) := by rw [Hid, HZ2.out, if_pos rfl]
          go_wp2_with fail
          refine HV3.out.mono ?_
          rintro e w1 ⟨rfl, rfl⟩
          go_wp2_with fail
          go_loop [6] (fun vw => ∃ y : ByteArray, vw = .string y ∧ y.size ≤ 256 ∧ Hid (Lib.trimRightS y.data.toList [32, 9] = TR)) (fun vw => szOf vw)
          case atStart => exact ⟨_, rfl, hWs, hW⟩
          case round =>
            obtain ⟨y, rfl, hys, hy⟩ := hrel
            clear hW hWs
            by_cases hy0 : y.size = 0
            · have HY : Hid (tx TR = y) := by
                have e := empty_of hy0
                rw [Hid, ← hy.out, e]; rfl
              have he := empty_of hy0
              subst he
              have HX : Hid (Calls Tryd.prog 59 #[.string ⟨#[]⟩] w1 fun e w' => e = .returned (.tuple #[.int .i64 (numI 16 15 (tx TR)), .bool (numB 16 15 (tx TR))]) ∧ w' = w1) := by rw [HY.out]; exact rhex_any _ w1 (by decide)
              unfold numI numB at HX
              go_wp2_with fail
              refine HX.out.mono ?_
              rintro e w2 ⟨rfl, rfl⟩
              go_wp2
              go_ret2
              exact ⟨by rw [HZN.out]; rfl, rfl⟩
            · obtain ⟨n, hn⟩ : ∃ n, y.size = n + 1 := ⟨y.size - 1, by omega⟩
              have htk := take_t hn
              have hnl : n < y.size := by omega
              have hidx : ((y.size : Int) - 1) = (n : Int) := by omega
              have hgt : (0 : Int) < (y.size : Int) := by omega
              by_cases hb : blk (y[n]'hnl) = true
              · have hb2 : ((y[n]'hnl).toNat : Int) = 32 ∨ (¬ ((y[n]'hnl).toNat : Int) = 32 ∧ ((y[n]'hnl).toNat : Int) = 9) := by
                  rw [blk_eq] at hb
                  simp only [Bool.or_eq_true, decide_eq_true_eq] at hb
                  omega
                have HNX : Hid ((y.extract 0 n).size ≤ 256 ∧ Lib.trimRightS (y.extract 0 n).data.toList [32, 9] = TR ∧ (y.extract 0 n).size < y.size) := by
                  have e : (y.extract 0 n).data.toList = y.data.toList.take n := by rw [ext_data]; simp
                  have h := hy.out
                  rw [htk, trimR_step _ _ hb] at h
                  have e2 : (y.extract 0 n).size = n := by show (y.extract 0 n).data.toList.length = n; rw [e, List.length_take]; show min n y.size = n; omega
                  exact ⟨by omega, by rw [e]; exact h, by omega⟩
                clear htk hb hn
                have hsl : n ≤ y.size := by omega
                rcases hb2 with hb2 | ⟨hb1, hb2⟩
                · go_wp2
                  go_round
                  case rel => exact ⟨_, rfl, HNX.out.1, HNX.out.2.1⟩
                  case measure => exact HNX.out.2.2
                · go_wp2
                  go_round
                  case rel => exact ⟨_, rfl, HNX.out.1, HNX.out.2.1⟩
                  case measure => exact HNX.out.2.2
              · have hb2 : ((((y[n]'hnl).toNat : Int) == 32) = false) ∧ ((((y[n]'hnl).toNat : Int) == 9) = false) := by
                  rw [blk_eq] at hb
                  simp only [Bool.or_eq_true, decide_eq_true_eq] at hb
                  simp
                  omega
                obtain ⟨b1, b2⟩ := hb2
                have HY : Hid (tx TR = y) := by
                  have h := hy.out
                  have hbf : blk (y[n]'hnl) = false := by simpa using hb
                  rw [htk, trimR_stop _ _ hbf, ← htk] at h
                  rw [Hid, ← h]; rfl
                have HX : Hid (Calls Tryd.prog 59 #[.string y] w1 fun e w' => e = .returned (.tuple #[.int .i64 (numI 16 15 (tx TR)), .bool (numB 16 15 (tx TR))]) ∧ w' = w1) := by rw [HY.out]; exact rhex_any _ w1 (by unfold maxLen; omega)
                unfold numI numB at HX
                clear htk hb hn
                go_wp2_with fail
                refine HX.out.mono ?_
                rintro e w2 ⟨rfl, rfl⟩
                go_wp2
                go_ret2
                exact ⟨by rw [HZN.out]; rfl, rfl⟩
      · have hF' : ¬ (F : Int) < (s.size : Int) := by omega
        have HZN : Hid (Z = numV 16 15 (tx TR)) := by rw [Hid, HZ2.out, hVn hF, if_pos rfl]
        clear HV hVn hF
        go_wp2_with fail
        go_loop [6] (fun vw => ∃ y : ByteArray, vw = .string y ∧ y.size ≤ 256 ∧ Hid (Lib.trimRightS y.data.toList [32, 9] = TR)) (fun vw => szOf vw)
        case atStart => exact ⟨_, rfl, hWs, hW⟩
        case round =>
          obtain ⟨y, rfl, hys, hy⟩ := hrel
          clear hW hWs
          by_cases hy0 : y.size = 0
          · have HY : Hid (tx TR = y) := by
              have e := empty_of hy0
              rw [Hid, ← hy.out, e]; rfl
            have he := empty_of hy0
            subst he
            have HX : Hid (Calls Tryd.prog 59 #[.string ⟨#[]⟩] w fun e w' => e = .returned (.tuple #[.int .i64 (numI 16 15 (tx TR)), .bool (numB 16 15 (tx TR))]) ∧ w' = w) := by rw [HY.out]; exact rhex_any _ w (by decide)
            unfold numI numB at HX
            go_wp2_with fail
            refine HX.out.mono ?_
            rintro e w2 ⟨rfl, rfl⟩
            go_wp2
            go_ret2
            exact ⟨by rw [HZN.out]; rfl, rfl⟩
          · obtain ⟨n, hn⟩ : ∃ n, y.size = n + 1 := ⟨y.size - 1, by omega⟩
            have htk := take_t hn
            have hnl : n < y.size := by omega
            have hidx : ((y.size : Int) - 1) = (n : Int) := by omega
            have hgt : (0 : Int) < (y.size : Int) := by omega
            by_cases hb : blk (y[n]'hnl) = true
            · have hb2 : ((y[n]'hnl).toNat : Int) = 32 ∨ (¬ ((y[n]'hnl).toNat : Int) = 32 ∧ ((y[n]'hnl).toNat : Int) = 9) := by
                rw [blk_eq] at hb
                simp only [Bool.or_eq_true, decide_eq_true_eq] at hb
                omega
              have HNX : Hid ((y.extract 0 n).size ≤ 256 ∧ Lib.trimRightS (y.extract 0 n).data.toList [32, 9] = TR ∧ (y.extract 0 n).size < y.size) := by
                have e : (y.extract 0 n).data.toList = y.data.toList.take n := by rw [ext_data]; simp
                have h := hy.out
                rw [htk, trimR_step _ _ hb] at h
                have e2 : (y.extract 0 n).size = n := by show (y.extract 0 n).data.toList.length = n; rw [e, List.length_take]; show min n y.size = n; omega
                exact ⟨by omega, by rw [e]; exact h, by omega⟩
              clear htk hb hn
              have hsl : n ≤ y.size := by omega
              rcases hb2 with hb2 | ⟨hb1, hb2⟩
              · go_wp2
                go_round
                case rel => exact ⟨_, rfl, HNX.out.1, HNX.out.2.1⟩
                case measure => exact HNX.out.2.2
              · go_wp2
                go_round
                case rel => exact ⟨_, rfl, HNX.out.1, HNX.out.2.1⟩
                case measure => exact HNX.out.2.2
            · have hb2 : ((((y[n]'hnl).toNat : Int) == 32) = false) ∧ ((((y[n]'hnl).toNat : Int) == 9) = false) := by
                rw [blk_eq] at hb
                simp only [Bool.or_eq_true, decide_eq_true_eq] at hb
                simp
                omega
              obtain ⟨b1, b2⟩ := hb2
              have HY : Hid (tx TR = y) := by
                have h := hy.out
                have hbf : blk (y[n]'hnl) = false := by simpa using hb
                rw [htk, trimR_stop _ _ hbf, ← htk] at h
                rw [Hid, ← h]; rfl
              have HX : Hid (Calls Tryd.prog 59 #[.string y] w fun e w' => e = .returned (.tuple #[.int .i64 (numI 16 15 (tx TR)), .bool (numB 16 15 (tx TR))]) ∧ w' = w) := by rw [HY.out]; exact rhex_any _ w (by unfold maxLen; omega)
              unfold numI numB at HX
              clear htk hb hn
              go_wp2_with fail
              refine HX.out.mono ?_
              rintro e w2 ⟨rfl, rfl⟩
              go_wp2
              go_ret2
              exact ⟨by rw [HZN.out]; rfl, rfl⟩
end Go.Proofs.YtbmpfjmnedlahabDoor
