/- Texts that the proof leans on, one behind the other: ChkN ChkO -/
import Derived.Test.YtkdnckkdofoaoaaGreatDoorKu
import Derived.Test.YtkdnckkdofoaoaaGreatDoorKm
import Derived.Test.YtkdnckkdofoaoaaGreatDoorKl
import Derived.Lib.SplitLaws
/- The reference's reading of a chunk's size. -/
namespace Go.Proofs.YtkdnckkdofoaoaaGreatDoor
open Go.RowKit
set_option linter.unusedVariables false

/-- How many bytes stand ahead of the first ; (59). -/
def f59 : List UInt8 → Nat
  | [] => 0
  | b :: l => if b = 59 then 0 else f59 l + 1
theorem f59_le : ∀ l : List UInt8, f59 l ≤ l.length
  | [] => Nat.le_refl _
  | b :: l => by
    rw [f59]
    have := f59_le l
    split
    · exact Nat.zero_le _
    · rw [List.length_cons]; omega
theorem f59_cut : ∀ l : List UInt8, (∀ b ∈ l.take (f59 l), b ≠ 59) ∧ (f59 l < l.length → l = l.take (f59 l) ++ 59 :: l.drop (f59 l + 1))
  | [] => ⟨(fun b h => by cases h), fun h => by simp at h⟩
  | b :: l => by
    have ih := f59_cut l
    rw [f59]
    by_cases hb : b = 59
    · rw [if_pos hb]
      exact ⟨(fun x h => by cases h), fun _ => by rw [hb]; rfl⟩
    · rw [if_neg hb, List.take_succ_cons, List.drop_succ_cons]
      refine ⟨fun x hx => ?_, fun h => ?_⟩
      · cases hx with
        | head => exact hb
        | tail _ hx => exact ih.1 x hx
      · rw [List.cons_append, ← ih.2 (by rw [List.length_cons] at h; omega)]
theorem cut_f59 (l : List UInt8) : (Lib.cut l [59]).1 = l.take (f59 l) ∧ (f59 l < l.length → (Lib.cut l [59]).2.1 = l.drop (f59 l + 1)) ∧ (¬ f59 l < l.length → (Lib.cut l [59]).2.1 = []) := by
  obtain ⟨h1, h2⟩ := f59_cut l
  by_cases h : f59 l < l.length
  · have e := cut_some 59 (l.take (f59 l)) (l.drop (f59 l + 1)) h1
    rw [← h2 h] at e
    rw [e]
    exact ⟨rfl, fun _ => rfl, fun c => absurd h c⟩
  · have hf : f59 l = l.length := by have := f59_le l; omega
    rw [hf, List.take_length] at h1
    have e := cut_none 59 l h1
    rw [e, hf, List.take_length]
    exact ⟨rfl, fun c => absurd c (Nat.lt_irrefl _), fun _ => rfl⟩
theorem f59_step (s : ByteArray) (k : Nat) (h : k < s.size) : k + f59 (s.data.toList.drop k) = if s[k] = 59 then k else (k + 1) + f59 (s.data.toList.drop (k + 1)) := by
  have hk : k < s.data.toList.length := h
  rw [List.drop_eq_getElem_cons hk, f59, show s.data.toList[k] = s[k] from rfl]
  split <;> omega
theorem trimR_step (l : List UInt8) (b : UInt8) (hb : blk b = true) : Lib.trimRightS (l ++ [b]) [32, 9] = Lib.trimRightS l [32, 9] := by
  unfold Lib.trimRightS
  rw [List.reverse_append, List.reverse_singleton, List.singleton_append, List.dropWhile_cons, if_pos (show ([32, 9] : List UInt8).contains b = true from hb)]
theorem trimR_stop (l : List UInt8) (b : UInt8) (hb : blk b = false) : Lib.trimRightS (l ++ [b]) [32, 9] = l ++ [b] := by
  unfold Lib.trimRightS
  rw [List.reverse_append, List.reverse_singleton, List.singleton_append, List.dropWhile_cons, if_neg (by unfold blk at hb; rw [hb]; decide)]
  simp
theorem ext_tx (s : ByteArray) (i j : Nat) : s.extract i j = tx ((s.data.toList.take j).drop i) := by
  have h := Lib.extract_data s i j
  unfold tx
  obtain ⟨⟨l⟩⟩ := s
  apply ByteArray.ext
  apply Array.toList_inj.1
  rw [h]
  simp [List.drop_take]

set_option maxRecDepth 100000 in
set_option maxHeartbeats 4000000 in
theorem rsize_any (s : ByteArray) (w : World) (hs : s.size ≤ 256) : Calls Tryz.prog 114 #[.string s] w fun e w' => e = .returned (.tuple #[.int .i64 ((szO s.data.toList).getD 0 : Nat), .bool (szO s.data.toList).isSome]) ∧ w' = w := by
  obtain ⟨Z, hZ⟩ : ∃ Z, Z = szO s.data.toList := ⟨_, rfl⟩
  rw [← hZ]
  have HZ : Hid (Z = szO s.data.toList) := hZ
  clear hZ
  go_enter Tryz.func114, Tryz.ntmps114
  go_wp2_with fail
  go_loop [4, 5] (fun ve vi => ∃ k : Nat, k ≤ s.size ∧ vi = .int .i64 ((k : Int) - 1) ∧ ve = .int .i64 (k + f59 (s.data.toList.drop k) : Nat)) (fun _ vi => (intOf vi + 1).toNat)
  case atStart => exact ⟨s.size, Nat.le_refl _, rfl, by rw [List.drop_eq_nil_of_le (show s.data.toList.length ≤ s.size from Nat.le_refl _)]; rfl⟩
  case round =>
    obtain ⟨k, hk, rfl, rfl⟩ := hrel
    by_cases hk0 : 0 < k
    · obtain ⟨j, rfl⟩ : ∃ j, k = j + 1 := ⟨k - 1, by omega⟩
      have hj : j < s.size := by omega
      have hst := f59_step s j hj
      have HST : Hid (j + f59 (s.data.toList.drop j) = if s[j] = 59 then j else (j + 1) + f59 (s.data.toList.drop (j + 1))) := hst
      have e1 : ((j + 1 : Nat) : Int) - 1 = (j : Int) := by omega
      rw [e1]
      clear hst e1
      obtain ⟨E, hE⟩ : ∃ E : Int, E = ((j + 1 + f59 (s.data.toList.drop (j + 1)) : Nat) : Int) := ⟨_, rfl⟩
      rw [← hE]
      have HE : Hid (E = ((j + 1 + f59 (s.data.toList.drop (j + 1)) : Nat) : Int)) := hE
      clear hE
      by_cases hb : s[j] = 59
      · have t1 : ((s[j].toNat : Int) == 59) = true := by rw [hb]; rfl
        have HR : Hid (((j + f59 (s.data.toList.drop j) : Nat) : Int) = (j : Int)) := by rw [Hid, HST.out, if_pos hb]
        clear hb
        go_wp2
        go_round
        case rel => exact ⟨j, by omega, rfl, by rw [HR.out]⟩
        case measure => simp [intOf]
      · have t1 : ((s[j].toNat : Int) == 59) = false := by simpa using toNat_ne 59 59 rfl hb
        have HR : Hid (((j + f59 (s.data.toList.drop j) : Nat) : Int) = E) := by rw [Hid, HST.out, if_neg hb, HE.out]
        clear hb
        go_wp2
        go_round
        case rel => exact ⟨j, by omega, rfl, by rw [HR.out]⟩
        case measure => simp [intOf]
    · obtain rfl : k = 0 := by omega
      rw [Nat.zero_add, List.drop_zero]
      obtain ⟨hc1, hc2, hc3⟩ := cut_f59 s.data.toList
      have hfl := f59_le s.data.toList
      have hsz : s.data.toList.length = s.size := rfl
      rw [hsz] at hfl hc2 hc3
      have hszO : szO s.data.toList = if allB valP (Lib.cut s.data.toList [59]).2.1 then numV 16 15 (tx (Lib.trimRightS (s.data.toList.take (f59 s.data.toList)) [32, 9])) else none := by unfold szO; rw [hc1]
      obtain ⟨TR, hTR⟩ : ∃ TR, TR = Lib.trimRightS (s.data.toList.take (f59 s.data.toList)) [32, 9] := ⟨_, rfl⟩
      rw [← hTR] at hszO
      have hW : Hid (Lib.trimRightS (s.extract 0 (f59 s.data.toList)).data.toList [32, 9] = TR) := by rw [Hid, ext_data, List.drop_zero, hTR]
      have hWs : (s.extract 0 (f59 s.data.toList)).size ≤ 256 := by
        show (s.extract 0 (f59 s.data.toList)).data.toList.length ≤ 256
        rw [ext_data, List.drop_zero, List.length_take]; omega
      have hV1 : f59 s.data.toList < s.size → (s.extract (f59 s.data.toList + 1) s.size).data.toList = (Lib.cut s.data.toList [59]).2.1 := by
        intro h
        rw [hc2 h, ext_data, List.take_of_length_le (show s.data.toList.length ≤ s.size from Nat.le_refl _)]
      have HV : Hid (f59 s.data.toList < s.size → Calls Tryz.prog 90 #[.string (s.extract (f59 s.data.toList + 1) s.size)] w fun e w' => e = .returned (.bool (allB valP (Lib.cut s.data.toList [59]).2.1)) ∧ w' = w) := by
        intro h
        have k := rValue_any (s.extract (f59 s.data.toList + 1) s.size) w (by
          show (s.extract (f59 s.data.toList + 1) s.size).data.toList.length ≤ maxLen
          rw [ext_data, List.length_drop, List.length_take]
          unfold maxLen; omega)
        rw [hV1 h] at k
        exact k
      have hVn : ¬ f59 s.data.toList < s.size → allB valP (Lib.cut s.data.toList [59]).2.1 = true := by intro h; rw [hc3 h]; rfl
      have HZ2 : Hid (Z = if allB valP (Lib.cut s.data.toList [59]).2.1 then numV 16 15 (tx TR) else none) := by rw [Hid, HZ.out, hszO]
      clear hszO hc1 hc2 hc3 hV1 hTR HZ
      generalize allB valP (Lib.cut s.data.toList [59]).2.1 = V at *
      generalize f59 s.data.toList = F at *
      clear hsz
      by_cases hF : F < s.size
      · have hF' : (F : Int) < (s.size : Int) := by omega
        have HVV := HV.out hF
        have HV3 : Hid (Calls Tryz.prog 90 #[.string (s.extract (F + 1) s.size)] w fun e w' => e = .returned (.bool V) ∧ w' = w) := HVV
        clear HVV HV hVn hF
        cases V
        · have HZN : Hid (Z = none) := by rw [Hid, HZ2.out, if_neg (by decide)]
          clear hW hWs
          go_wp2_with fail
          refine HV3.out.mono ?_
          rintro e w1 ⟨rfl, rfl⟩
          go_wp2
          go_ret2
          exact ⟨by rw [HZN.out]; rfl, rfl⟩
        · have HZN : Hid (Z = numV 16 15 (tx TR)) := by rw [Hid, HZ2.out, if_pos rfl]
          go_wp2_with fail
          refine HV3.out.mono ?_
          rintro e w1 ⟨rfl, rfl⟩
          go_wp2_with fail
          go_loop [6] (fun vw => ∃ y : ByteArray, vw = .string y ∧ y.size ≤ 256 ∧ Hid (Lib.trimRightS y.data.toList [32, 9] = TR)) (fun vw => szOf vw)
          case atStart => exact ⟨_, rfl, hWs, hW⟩
          case round =>
            obtain ⟨y, rfl, hys, hy⟩ := hrel
            clear hW hWs
            by_cases hy0 : y.size = 0
            · have HY : Hid (tx TR = y) := by
                have e := empty_of hy0
                rw [Hid, ← hy.out, e]; rfl
              have he := empty_of hy0
              subst he
              have HX : Hid (Calls Tryz.prog 147 #[.string ⟨#[]⟩] w1 fun e w' => e = .returned (.tuple #[.int .i64 (numI 16 15 (tx TR)), .bool (numB 16 15 (tx TR))]) ∧ w' = w1) := by rw [HY.out]; exact rhex_any _ w1 (by decide)
              unfold numI numB at HX
              go_wp2_with fail
              refine HX.out.mono ?_
              rintro e w2 ⟨rfl, rfl⟩
              go_wp2
              go_ret2
              exact ⟨by rw [HZN.out]; rfl, rfl⟩
            · obtain ⟨n, hn⟩ : ∃ n, y.size = n + 1 := ⟨y.size - 1, by omega⟩
              have htk := take_t hn
              have hnl : n < y.size := by omega
              have hidx : ((y.size : Int) - 1) = (n : Int) := by omega
              have hgt : (0 : Int) < (y.size : Int) := by omega
              by_cases hb : blk (y[n]'hnl) = true
              · have hb2 : ((y[n]'hnl).toNat : Int) = 32 ∨ (¬ ((y[n]'hnl).toNat : Int) = 32 ∧ ((y[n]'hnl).toNat : Int) = 9) := by
                  rw [blk_eq] at hb
                  simp only [Bool.or_eq_true, decide_eq_true_eq] at hb
                  omega
                have HNX : Hid ((y.extract 0 n).size ≤ 256 ∧ Lib.trimRightS (y.extract 0 n).data.toList [32, 9] = TR ∧ (y.extract 0 n).size < y.size) := by
                  have e : (y.extract 0 n).data.toList = y.data.toList.take n := by rw [ext_data]; simp
                  have h := hy.out
                  rw [htk, trimR_step _ _ hb] at h
                  have e2 : (y.extract 0 n).size = n := by show (y.extract 0 n).data.toList.length = n; rw [e, List.length_take]; show min n y.size = n; omega
                  exact ⟨by omega, by rw [e]; exact h, by omega⟩
                clear htk hb hn
                have hsl : n ≤ y.size := by omega
                rcases hb2 with hb2 | ⟨hb1, hb2⟩
                · go_wp2
                  go_round
                  case rel => exact ⟨_, rfl, HNX.out.1, HNX.out.2.1⟩
                  case measure => exact HNX.out.2.2
                · go_wp2
                  go_round
                  case rel => exact ⟨_, rfl, HNX.out.1, HNX.out.2.1⟩
                  case measure => exact HNX.out.2.2
              · have hb2 : ((((y[n]'hnl).toNat : Int) == 32) = false) ∧ ((((y[n]'hnl).toNat : Int) == 9) = false) := by
                  rw [blk_eq] at hb
                  simp only [Bool.or_eq_true, decide_eq_true_eq] at hb
                  simp
                  omega
                obtain ⟨b1, b2⟩ := hb2
                have HY : Hid (tx TR = y) := by
                  have h := hy.out
                  have hbf : blk (y[n]'hnl) = false := by simpa using hb
                  rw [htk, trimR_stop _ _ hbf, ← htk] at h
                  rw [Hid, ← h]; rfl
                have HX : Hid (Calls Tryz.prog 147 #[.string y] w1 fun e w' => e = .returned (.tuple #[.int .i64 (numI 16 15 (tx TR)), .bool (numB 16 15 (tx TR))]) ∧ w' = w1) := by rw [HY.out]; exact rhex_any _ w1 (by unfold maxLen; omega)
                unfold numI numB at HX
                clear htk hb hn
                go_wp2_with fail
                refine HX.out.mono ?_
                rintro e w2 ⟨rfl, rfl⟩
                go_wp2
                go_ret2
                exact ⟨by rw [HZN.out]; rfl, rfl⟩
      · have hF' : ¬ (F : Int) < (s.size : Int) := by omega
        have HZN : Hid (Z = numV 16 15 (tx TR)) := by rw [Hid, HZ2.out, hVn hF, if_pos rfl]
        clear HV hVn hF
        go_wp2_with fail
        go_loop [6] (fun vw => ∃ y : ByteArray, vw = .string y ∧ y.size ≤ 256 ∧ Hid (Lib.trimRightS y.data.toList [32, 9] = TR)) (fun vw => szOf vw)
        case atStart => exact ⟨_, rfl, hWs, hW⟩
        case round =>
          obtain ⟨y, rfl, hys, hy⟩ := hrel
          clear hW hWs
          by_cases hy0 : y.size = 0
          · have HY : Hid (tx TR = y) := by
              have e := empty_of hy0
              rw [Hid, ← hy.out, e]; rfl
            have he := empty_of hy0
            subst he
            have HX : Hid (Calls Tryz.prog 147 #[.string ⟨#[]⟩] w fun e w' => e = .returned (.tuple #[.int .i64 (numI 16 15 (tx TR)), .bool (numB 16 15 (tx TR))]) ∧ w' = w) := by rw [HY.out]; exact rhex_any _ w (by decide)
            unfold numI numB at HX
            go_wp2_with fail
            refine HX.out.mono ?_
            rintro e w2 ⟨rfl, rfl⟩
            go_wp2
            go_ret2
            exact ⟨by rw [HZN.out]; rfl, rfl⟩
          · obtain ⟨n, hn⟩ : ∃ n, y.size = n + 1 := ⟨y.size - 1, by omega⟩
            have htk := take_t hn
            have hnl : n < y.size := by omega
            have hidx : ((y.size : Int) - 1) = (n : Int) := by omega
            have hgt : (0 : Int) < (y.size : Int) := by omega
            by_cases hb : blk (y[n]'hnl) = true
            · have hb2 : ((y[n]'hnl).toNat : Int) = 32 ∨ (¬ ((y[n]'hnl).toNat : Int) = 32 ∧ ((y[n]'hnl).toNat : Int) = 9) := by
                rw [blk_eq] at hb
                simp only [Bool.or_eq_true, decide_eq_true_eq] at hb
                omega
              have HNX : Hid ((y.extract 0 n).size ≤ 256 ∧ Lib.trimRightS (y.extract 0 n).data.toList [32, 9] = TR ∧ (y.extract 0 n).size < y.size) := by
                have e : (y.extract 0 n).data.toList = y.data.toList.take n := by rw [ext_data]; simp
                have h := hy.out
                rw [htk, trimR_step _ _ hb] at h
                have e2 : (y.extract 0 n).size = n := by show (y.extract 0 n).data.toList.length = n; rw [e, List.length_take]; show min n y.size = n; omega
                exact ⟨by omega, by rw [e]; exact h, by omega⟩
              clear htk hb hn
              have hsl : n ≤ y.size := by omega
              rcases hb2 with hb2 | ⟨hb1, hb2⟩
              · go_wp2
                go_round
                case rel => exact ⟨_, rfl, HNX.out.1, HNX.out.2.1⟩
                case measure => exact HNX.out.2.2
              · go_wp2
                go_round
                case rel => exact ⟨_, rfl, HNX.out.1, HNX.out.2.1⟩
                case measure => exact HNX.out.2.2
            · have hb2 : ((((y[n]'hnl).toNat : Int) == 32) = false) ∧ ((((y[n]'hnl).toNat : Int) == 9) = false) := by
                rw [blk_eq] at hb
                simp only [Bool.or_eq_true, decide_eq_true_eq] at hb
                simp
                omega
              obtain ⟨b1, b2⟩ := hb2
              have HY : Hid (tx TR = y) := by
                have h := hy.out
                have hbf : blk (y[n]'hnl) = false := by simpa using hb
                rw [htk, trimR_stop _ _ hbf, ← htk] at h
                rw [Hid, ← h]; rfl
              have HX : Hid (Calls Tryz.prog 147 #[.string y] w fun e w' => e = .returned (.tuple #[.int .i64 (numI 16 15 (tx TR)), .bool (numB 16 15 (tx TR))]) ∧ w' = w) := by rw [HY.out]; exact rhex_any _ w (by unfold maxLen; omega)
              unfold numI numB at HX
              clear htk hb hn
              go_wp2_with fail
              refine HX.out.mono ?_
              rintro e w2 ⟨rfl, rfl⟩
              go_wp2
              go_ret2
              exact ⟨by rw [HZN.out]; rfl, rfl⟩
end Go.Proofs.YtkdnckkdofoaoaaGreatDoor

/- The reference's Decode. -/
namespace Go.Proofs.YtkdnckkdofoaoaaGreatDoor
open Go.RowKit
set_option linter.unusedVariables false

theorem hidmk {p : Prop} (h : p) : Hid p := h
theorem plusD_plusN (acc : List UInt8) (i k : Nat) (t : Nat × Int) (hk : 0 < k) : plusD acc i ([], plusN k t) = plusD acc (i + k) ([], t) := by
  unfold plusD plusN
  by_cases h : t.1 = 0
  · rw [if_pos h, if_pos rfl, if_pos h]
  · rw [if_neg h, if_neg (by simp only; omega), if_neg h]
    simp [Nat.add_assoc]
/-- How the first chunk of what is left stands. -/
theorem dec_chunk {f m i k : Nat} {l : List UInt8} (hc : cutAt 256 0 l = (some i, 0)) (hz : szO (l.take i) = some k) (hk : ¬ k = 0) :
    decL (f + 1) m l = if m < k then ([], 0, 2) else if l.length - (i + 2) < k then ([], 0, 0) else if (endsP (l.drop (i + 2 + k))).1 then plusD ((l.drop (i + 2)).take k) (i + 2 + k + 2) (decL f (m - k) (l.drop (i + 2 + k + 2))) else ([], 0, (endsP (l.drop (i + 2 + k))).2) := by
  have ho := oneP_hit (m := m) hc
  rw [hz, oneK_some] at ho
  by_cases h1 : m < k
  · rw [if_pos h1] at ho ⊢
    exact decL_miss ho
  · rw [if_neg h1, if_neg hk] at ho
    rw [if_neg h1]
    by_cases h2 : l.length - (i + 2) < k
    · rw [if_pos h2] at ho ⊢
      exact decL_miss ho
    · rw [if_neg h2] at ho ⊢
      by_cases h3 : (endsP (l.drop (i + 2 + k))).1 = true
      · rw [if_pos h3] at ho ⊢
        exact decL_next ho (by omega) hk
      · rw [if_neg h3] at ho ⊢
        exact decL_miss ho


set_option maxRecDepth 100000 in
set_option maxHeartbeats 16000000 in
theorem rdecode_neg (b : List UInt8) (kb : Nat) (v : Value) (most : Int) (hneg : most < 0) (w : World) (hs : Src w kb v b) (hk : 0 < b.length → kb < w.heap.size) (hlen : b.length ≤ 1000000) :
    Calls Tryz.prog 66 #[v, .int .i64 most] w (DecQ w (decR 0 b)) := by
  have HS : Hid (Src w kb v b) := hs
  obtain ⟨a, c, rfl, h1, h2, h3⟩ := hs
  obtain ⟨n, hn⟩ : ∃ n, n = b.length := ⟨_, rfl⟩
  rw [← hn] at HS ⊢
  have HN : Hid (n = b.length) := hn
  have HK : Hid (0 < b.length → kb < w.heap.size) := hk
  rw [← hn] at h1 hlen
  unfold maxLen at h2
  have HP0 : Hid (decR 0 b = plusD [] 0 (decL (n + 1) (0 - 0) (b.drop 0))) := by
    rw [Hid, HN.out]; exact (plusD_zero _ (decL_ok _ _ _)).symm
  generalize decR 0 b = R at *
  have HCAN : Hid (∀ (wr : World) (at_ : Nat), at_ ≤ n → Below w.heap.size w wr → ∀ a' : Option Addr, (at_ < c → a' = a.map (fun x => x.add at_)) → Src wr kb (.slice a' (n - at_) (c - at_)) (b.drop at_)) := fun wr at_ h1 hB a' ha' => (HS.out.keep HK.out hB).cut (by have := HN.out; omega) ha'
  have HCELL : Hid (0 < n → ∃ off, a = some ⟨kb, off, none⟩ ∧ ∀ (wr : World) (j : Nat) (hj : j < b.length), Below w.heap.size w wr → wr.cell? ⟨kb, off + j, none⟩ = some (.int .u8 (b[j].toNat : Int))) := by
    intro hp
    obtain ⟨off, ha, hc⟩ := h3 (by omega)
    exact ⟨off, ha, fun wr j hj hB => (hB.cell (p := ⟨kb, off + j, none⟩) (HK.out (by omega))).trans (hc j hj)⟩
  have O0 := Own.empty w.heap.size w (Nat.le_refl _)
  have B0 : Below w.heap.size w (w.alloc (.cells #[] 5)) := (Below.refl _ _).alloc (Nat.le_refl _) _
  clear hn h3 hk
  go_enter Tryz.func66, Tryz.ntmps66
  go_wp2_with fail
  go_loopw [7, 8, 9] (fun v7 vt va wr => ∃ (at_ f : Nat) (acc : List UInt8), at_ ≤ n ∧ n < at_ + f ∧ acc.length ≤ at_ ∧ acc.length ≤ 0 ∧ va = .int .i64 at_ ∧ vt = .int .i64 acc.length ∧ Hid (Own w.heap.size wr v7 acc) ∧ Hid (R = plusD acc at_ (decL f (0 - acc.length) (b.drop at_))) ∧ Below w.heap.size w wr) (fun _ _ va _ => n - (intOf va).toNat)
  case atStart => exact ⟨0, n + 1, [], Nat.zero_le _, by omega, Nat.le_refl _, Nat.zero_le _, rfl, rfl, O0, HP0, B0⟩
  case round =>
    obtain ⟨at_, f, acc, hat, hf, hacc, haM, rfl, rfl, hO, hR, hB⟩ := hrel
    clear HP0 O0 B0
    obtain ⟨a7, c7, rfl, hn7⟩ := hO.out.form
    obtain ⟨f, rfl⟩ : ∃ f', f = f' + 1 := ⟨f - 1, by omega⟩
    have HSA : Hid (∀ a' : Option Addr, (at_ < c → a' = a.map (fun x => x.add at_)) → Src wr kb (.slice a' (n - at_) (c - at_)) (b.drop at_)) := HCAN.out wr at_ hat hB
    have HCU : Hid (∀ v', Src wr kb v' (b.drop at_) → Calls Tryz.prog 88 #[v', .int .i64 256] wr fun e w' => e = .returned (cutV 256 (b.drop at_)) ∧ w' = wr) := fun v' h => rcut_any _ kb _ 256 wr h
    rcases cut_cases 256 (b.drop at_) with ⟨i, hcut, hil, _⟩ | ⟨er, hcut⟩
    · have hle : i ≤ 256 := cutAt_le 256 _ 0 i 0 (by decide) hcut
      rw [cutV_hit hcut] at HCU
      have hin : at_ + i + 2 ≤ n := by rw [List.length_drop] at hil; have := HN.out; omega
      have hnz : ((i : Int) + 2 == 0) = false := by simp; omega
      have HZ : Hid (Calls Tryz.prog 114 #[.string ⟨((b.drop at_).take i).toArray⟩] wr fun e w' => e = .returned (.tuple #[.int .i64 ((szO ((b.drop at_).take i)).getD 0 : Nat), .bool (szO ((b.drop at_).take i)).isSome]) ∧ w' = wr) := rsize_any (tx ((b.drop at_).take i)) wr (by rw [tx_size, List.length_take]; omega)
      generalize (⟨((b.drop at_).take i).toArray⟩ : ByteArray) = T at *
      cases hz : szO ((b.drop at_).take i) with
      | none =>
        rw [hz] at HZ
        have HE : Hid (R = ([], 0, 30)) := by
          have ho := oneP_hit (m := 0 - acc.length) hcut
          rw [hz] at ho
          rw [Hid, hR.out, decL_miss (show oneP (0 - acc.length) (b.drop at_) = (30, 0, 0, 0) from ho)]; rfl
        clear hcut hR hz hil
        go_wp2_with fail
        all_goals
          refine (HCU.out _ (by first | exact HSA.out _ (fun _ => rfl) | exact HSA.out _ (fun h => if_neg (by omega)) | exact HSA.out _ (fun _ => by simp [addr_add]) | exact HSA.out _ (fun h => by rw [if_neg (by omega)]; simp [addr_add]) | (have hx := HSA.out a (fun h => by omega); rw [show c - at_ = 0 by omega] at hx; exact hx) | (have hx := HSA.out (some ⟨kb, off, none⟩) (fun h => by omega); rw [show c - at_ = 0 by omega] at hx; exact hx))).mono ?_
          rintro e w1 ⟨rfl, rfl⟩
          go_wp2_with fail
          refine HZ.out.mono ?_
          rintro e w2 ⟨rfl, rfl⟩
          go_wp2
          refine bodyPost_ret (v := .tuple #[.slice none 0 0, .int .i64 0, .int .i64 30]) (by simp [results, Tryz.results66, go_sem]; try omega) rfl ?_
          rw [HE.out]
          exact decq_no hB
      | some k =>
        rw [hz] at HZ
        have HZ2 : Hid (Calls Tryz.prog 114 #[.string T] wr fun e w' => e = .returned (.tuple #[.int .i64 (k : Int), .bool true]) ∧ w' = wr) := HZ
        clear HZ
        by_cases hk0 : k = 0
        · subst hk0
          have HR4 : Hid (R = plusD acc (at_ + i + 2) ([], trailL 40 (b.drop (at_ + i + 2)))) := by
            have ho := oneP_hit (m := 0 - acc.length) hcut
            rw [hz, oneK_some, if_neg (by omega), if_pos rfl] at ho
            rw [Hid, hR.out, decL_last ho (by omega), plusD_plusD _ _ _ _ _ (by omega), List.append_nil, List.drop_drop, ← Nat.add_assoc]
          have HO : Hid (Own w.heap.size wr (.slice a7 acc.length c7) acc) := hO
          have hB1 : Hid (Below w.heap.size w wr) := hB
          clear hcut hR hz hil hO hB
          go_wp2_with fail
          all_goals
            refine (HCU.out _ (by first | exact HSA.out _ (fun _ => rfl) | exact HSA.out _ (fun h => if_neg (by omega)) | exact HSA.out _ (fun _ => by simp [addr_add]) | exact HSA.out _ (fun h => by rw [if_neg (by omega)]; simp [addr_add]) | (have hx := HSA.out a (fun h => by omega); rw [show c - at_ = 0 by omega] at hx; exact hx) | (have hx := HSA.out (some ⟨kb, off, none⟩) (fun h => by omega); rw [show c - at_ = 0 by omega] at hx; exact hx))).mono ?_
            rintro e w1 ⟨rfl, rfl⟩
            go_wp2_with fail
            refine HZ2.out.mono ?_
            rintro e w2 ⟨rfl, rfl⟩
            go_wp2_with fail
            go_loopw [9, 18] (fun va vc wr => ∃ at2 r q : Nat, at2 ≤ n ∧ q + r = 40 ∧ va = .int .i64 at2 ∧ vc = .int .i64 q ∧ Hid (Own w.heap.size wr (.slice a7 acc.length c7) acc) ∧ Hid (R = plusD acc at2 ([], trailL r (b.drop at2))) ∧ Below w.heap.size w wr) (fun _ vc _ => 40 - (intOf vc).toNat)
            case atStart => exact ⟨at_ + i + 2, 40, 0, by omega, rfl, by go_num, rfl, HO, HR4, hB1.out⟩
            case round =>
              obtain ⟨at2, r, q, hat2, hr, rfl, rfl, hO2, hR2, hB⟩ := hrel
              clear HR4 HO hB1
              have HSA : Hid (∀ a' : Option Addr, (at2 < c → a' = a.map (fun x => x.add at2)) → Src wr kb (.slice a' (n - at2) (c - at2)) (b.drop at2)) := HCAN.out wr at2 hat2 hB
              have HCU : Hid (∀ v', Src wr kb v' (b.drop at2) → Calls Tryz.prog 88 #[v', .int .i64 256] wr fun e w' => e = .returned (cutV 256 (b.drop at2)) ∧ w' = wr) := fun v' h => rcut_any _ kb _ 256 wr h
              rcases cut_cases 256 (b.drop at2) with ⟨i2, hcut, hil, _⟩ | ⟨er, hcut⟩
              · have hle : i2 ≤ 256 := cutAt_le 256 _ 0 i2 0 (by decide) hcut
                rw [cutV_hit hcut] at HCU
                have hin : at2 + i2 + 2 ≤ n := by rw [List.length_drop] at hil; have := HN.out; omega
                by_cases hi : i2 = 0
                · subst hi
                  have HE : Hid (R = (acc, at2 + 2, 0)) := by rw [Hid, hR2.out, trailL_end hcut]; unfold plusD; rw [if_neg (by decide), List.append_nil]
                  rw [List.take_zero] at HCU
                  clear hcut hR2 hil
                  go_wp2_with fail
                  all_goals
                    refine (HCU.out _ (by first | exact HSA.out _ (fun _ => rfl) | exact HSA.out _ (fun h => if_neg (by omega)) | exact HSA.out _ (fun _ => by simp [addr_add]) | exact HSA.out _ (fun h => by rw [if_neg (by omega)]; simp [addr_add]) | (have hx := HSA.out a (fun h => by omega); rw [show c - at2 = 0 by omega] at hx; exact hx) | (have hx := HSA.out (some ⟨kb, off, none⟩) (fun h => by omega); rw [show c - at2 = 0 by omega] at hx; exact hx))).mono ?_
                    rintro e w1 ⟨rfl, rfl⟩
                    go_wp2
                    refine bodyPost_ret (v := .tuple #[.slice a7 acc.length c7, .int .i64 ((at2 + 2 : Nat) : Int), .int .i64 0]) (by simp [results, Tryz.results66, go_sem]; try omega) rfl ?_
                    rw [HE.out]
                    exact ⟨_, rfl, hO2.out, hB⟩
                · have hT : Hid (∀ W, Calls Tryz.prog 91 #[.string ⟨((b.drop at2).take i2).toArray⟩] W fun e w' => e = .returned (.tuple #[.agg #[.string (prs (tx ((b.drop at2).take i2))).1, .string (prs (tx ((b.drop at2).take i2))).2.1], .bool (decide ((prs (tx ((b.drop at2).take i2))).2.2 = 0))]) ∧ Below W.heap.size W w') := fun W => rparse_any (tx ((b.drop at2).take i2)) W (by rw [tx_size, List.length_take]; omega)
                  have hne : (⟨((b.drop at2).take i2).toArray⟩ : ByteArray).toList.isEmpty = false := isEmpty_of (by show ¬ ((b.drop at2).take i2).length = 0; rw [List.length_take]; omega)
                  have hfd : fldOk ((b.drop at2).take i2) = decide ((prs (tx ((b.drop at2).take i2))).2.2 = 0) := rfl
                  generalize prs (tx ((b.drop at2).take i2)) = pq at *
                  generalize (⟨((b.drop at2).take i2).toArray⟩ : ByteArray) = T at *
                  obtain ⟨q1, q2, q3⟩ := pq
                  simp only at hT hfd
                  have hnz : ((i2 : Int) + 2 == 0) = false := by simp; omega
                  cases hok : fldOk ((b.drop at2).take i2)
                  · have HE : Hid (R = ([], 0, 20)) := by rw [Hid, hR2.out, trailL_bad hcut hi hok]; rfl
                    rw [← hfd, hok] at hT
                    clear hcut hR2 hil hfd hok
                    go_wp2_with fail
                    all_goals
                      refine (HCU.out _ (by first | exact HSA.out _ (fun _ => rfl) | exact HSA.out _ (fun h => if_neg (by omega)) | exact HSA.out _ (fun _ => by simp [addr_add]) | exact HSA.out _ (fun h => by rw [if_neg (by omega)]; simp [addr_add]) | (have hx := HSA.out a (fun h => by omega); rw [show c - at2 = 0 by omega] at hx; exact hx) | (have hx := HSA.out (some ⟨kb, off, none⟩) (fun h => by omega); rw [show c - at2 = 0 by omega] at hx; exact hx))).mono ?_
                      rintro e w1 ⟨rfl, rfl⟩
                      go_wp2_with fail
                      refine (hT.out _).mono ?_
                      rintro e w2 ⟨rfl, B2⟩
                      have C2 := hB.trans (B2.mono hB.size)
                      have C3 := C2.alloc C2.size (.cells #[.string q1, .string q2] 41)
                      have BA2 := B2.alloc B2.size (.cells #[.string q1, .string q2] 41)
                      go_wp2
                      refine bodyPost_ret (v := .tuple #[.slice none 0 0, .int .i64 0, .int .i64 20]) (by simp [results, Tryz.results66, go_sem]; try omega) rfl ?_
                      rw [HE.out]
                      exact decq_no C3
                  · rw [← hfd, hok] at hT
                    clear hil hfd
                    cases r with
                    | zero =>
                      have HE : Hid (R = ([], 0, 3)) := by rw [Hid, hR2.out, trailL_many hcut hi hok]; rfl
                      obtain rfl : q = 40 := by omega
                      clear hcut hR2 hok
                      go_wp2_with fail
                      all_goals
                        refine (HCU.out _ (by first | exact HSA.out _ (fun _ => rfl) | exact HSA.out _ (fun h => if_neg (by omega)) | exact HSA.out _ (fun _ => by simp [addr_add]) | exact HSA.out _ (fun h => by rw [if_neg (by omega)]; simp [addr_add]) | (have hx := HSA.out a (fun h => by omega); rw [show c - at2 = 0 by omega] at hx; exact hx) | (have hx := HSA.out (some ⟨kb, off, none⟩) (fun h => by omega); rw [show c - at2 = 0 by omega] at hx; exact hx))).mono ?_
                        rintro e w1 ⟨rfl, rfl⟩
                        go_wp2_with fail
                        refine (hT.out _).mono ?_
                        rintro e w2 ⟨rfl, B2⟩
                        have C2 := hB.trans (B2.mono hB.size)
                        have C3 := C2.alloc C2.size (.cells #[.string q1, .string q2] 41)
                        have BA2 := B2.alloc B2.size (.cells #[.string q1, .string q2] 41)
                        go_wp2
                        refine bodyPost_ret (v := .tuple #[.slice none 0 0, .int .i64 0, .int .i64 3]) (by simp [results, Tryz.results66, go_sem]; try omega) rfl ?_
                        rw [HE.out]
                        exact decq_no C3
                    | succ r =>
                      have HE : Hid (R = plusD acc (at2 + i2 + 2) ([], trailL r (b.drop (at2 + i2 + 2)))) := by
                        rw [Hid, hR2.out, trailL_next hcut hi hok, plusD_plusN _ _ _ _ (by omega), List.drop_drop, ← Nat.add_assoc]
                      have hq : ¬ (40 : Int) < (q : Int) + 1 := by omega
                      clear hcut hR2 hok
                      go_wp2_with fail
                      all_goals
                        refine (HCU.out _ (by first | exact HSA.out _ (fun _ => rfl) | exact HSA.out _ (fun h => if_neg (by omega)) | exact HSA.out _ (fun _ => by simp [addr_add]) | exact HSA.out _ (fun h => by rw [if_neg (by omega)]; simp [addr_add]) | (have hx := HSA.out a (fun h => by omega); rw [show c - at2 = 0 by omega] at hx; exact hx) | (have hx := HSA.out (some ⟨kb, off, none⟩) (fun h => by omega); rw [show c - at2 = 0 by omega] at hx; exact hx))).mono ?_
                        rintro e w1 ⟨rfl, rfl⟩
                        go_wp2_with fail
                        refine (hT.out _).mono ?_
                        rintro e w2 ⟨rfl, B2⟩
                        have C2 := hB.trans (B2.mono hB.size)
                        have C3 := C2.alloc C2.size (.cells #[.string q1, .string q2] 41)
                        have BA2 := B2.alloc B2.size (.cells #[.string q1, .string q2] 41)
                        go_wp2
                        go_roundw
                        case rel => exact ⟨at2 + i2 + 2, r, q + 1, by omega, by omega, by go_num, by go_num, hO2.out.keep BA2, HE, C3⟩
                        case measure => simp [intOf]; omega
              · rw [cutV_miss hcut] at HCU
                have HE : Hid (R = ([], 0, er)) := by rw [Hid, hR2.out, trailL_miss hcut]; rfl
                clear hcut hR2
                by_cases h0 : er = 0
                · subst h0
                  go_wp2_with fail
                  all_goals
                    refine (HCU.out _ (by first | exact HSA.out _ (fun _ => rfl) | exact HSA.out _ (fun h => if_neg (by omega)) | exact HSA.out _ (fun _ => by simp [addr_add]) | exact HSA.out _ (fun h => by rw [if_neg (by omega)]; simp [addr_add]) | (have hx := HSA.out a (fun h => by omega); rw [show c - at2 = 0 by omega] at hx; exact hx) | (have hx := HSA.out (some ⟨kb, off, none⟩) (fun h => by omega); rw [show c - at2 = 0 by omega] at hx; exact hx))).mono ?_
                    rintro e w1 ⟨rfl, rfl⟩
                    go_wp2
                    refine bodyPost_ret (v := .tuple #[.slice none 0 0, .int .i64 0, .int .i64 0]) (by simp [results, Tryz.results66, go_sem]; try omega) rfl ?_
                    rw [HE.out]
                    exact decq_no hB
                · have h0' : (er != 0) = true := by simpa using h0
                  go_wp2_with fail
                  all_goals
                    refine (HCU.out _ (by first | exact HSA.out _ (fun _ => rfl) | exact HSA.out _ (fun h => if_neg (by omega)) | exact HSA.out _ (fun _ => by simp [addr_add]) | exact HSA.out _ (fun h => by rw [if_neg (by omega)]; simp [addr_add]) | (have hx := HSA.out a (fun h => by omega); rw [show c - at2 = 0 by omega] at hx; exact hx) | (have hx := HSA.out (some ⟨kb, off, none⟩) (fun h => by omega); rw [show c - at2 = 0 by omega] at hx; exact hx))).mono ?_
                    rintro e w1 ⟨rfl, rfl⟩
                    go_wp2
                    refine bodyPost_ret (v := .tuple #[.slice none 0 0, .int .i64 0, .int .i64 er]) (by simp [results, Tryz.results66, go_sem]; try omega) rfl ?_
                    rw [HE.out]
                    exact decq_no hB
        · have hkz : ((k : Int) == 0) = false := by simp; omega
          have hkz' : ¬ ((k : Int) = 0) := by omega
          have HE : Hid (R = ([], 0, 2)) := by rw [Hid, hR.out, dec_chunk hcut hz hk0, if_pos (by omega)]; rfl
          have i1 : (0 : Int) < (k : Int) := by omega
          obtain rfl : acc = [] := List.eq_nil_of_length_eq_zero (by omega)
          clear hcut hR hz hil
          go_wp2_with fail
          all_goals
            refine (HCU.out _ (by first | exact HSA.out _ (fun _ => rfl) | exact HSA.out _ (fun h => if_neg (by omega)) | exact HSA.out _ (fun _ => by simp [addr_add]) | exact HSA.out _ (fun h => by rw [if_neg (by omega)]; simp [addr_add]) | (have hx := HSA.out a (fun h => by omega); rw [show c - at_ = 0 by omega] at hx; exact hx) | (have hx := HSA.out (some ⟨kb, off, none⟩) (fun h => by omega); rw [show c - at_ = 0 by omega] at hx; exact hx))).mono ?_
            rintro e w1 ⟨rfl, rfl⟩
            go_wp2_with fail
            refine HZ2.out.mono ?_
            rintro e w2 ⟨rfl, rfl⟩
            go_wp2
            refine bodyPost_ret (v := .tuple #[.slice none 0 0, .int .i64 0, .int .i64 2]) (by simp [results, Tryz.results66, go_sem]; try omega) rfl ?_
            rw [HE.out]
            exact decq_no hB
    · rw [cutV_miss hcut] at HCU
      have HE : Hid (R = ([], 0, er)) := by rw [Hid, hR.out, decL_miss (oneP_miss hcut)]; rfl
      clear hcut hR
      by_cases h0 : er = 0
      · subst h0
        go_wp2_with fail
        all_goals
          refine (HCU.out _ (by first | exact HSA.out _ (fun _ => rfl) | exact HSA.out _ (fun h => if_neg (by omega)) | exact HSA.out _ (fun _ => by simp [addr_add]) | exact HSA.out _ (fun h => by rw [if_neg (by omega)]; simp [addr_add]) | (have hx := HSA.out a (fun h => by omega); rw [show c - at_ = 0 by omega] at hx; exact hx) | (have hx := HSA.out (some ⟨kb, off, none⟩) (fun h => by omega); rw [show c - at_ = 0 by omega] at hx; exact hx))).mono ?_
          rintro e w1 ⟨rfl, rfl⟩
          go_wp2
          refine bodyPost_ret (v := .tuple #[.slice none 0 0, .int .i64 0, .int .i64 0]) (by simp [results, Tryz.results66, go_sem]; try omega) rfl ?_
          rw [HE.out]
          exact decq_no hB
      · have h0' : (er != 0) = true := by simpa using h0
        go_wp2_with fail
        all_goals
          refine (HCU.out _ (by first | exact HSA.out _ (fun _ => rfl) | exact HSA.out _ (fun h => if_neg (by omega)) | exact HSA.out _ (fun _ => by simp [addr_add]) | exact HSA.out _ (fun h => by rw [if_neg (by omega)]; simp [addr_add]) | (have hx := HSA.out a (fun h => by omega); rw [show c - at_ = 0 by omega] at hx; exact hx) | (have hx := HSA.out (some ⟨kb, off, none⟩) (fun h => by omega); rw [show c - at_ = 0 by omega] at hx; exact hx))).mono ?_
          rintro e w1 ⟨rfl, rfl⟩
          go_wp2
          refine bodyPost_ret (v := .tuple #[.slice none 0 0, .int .i64 0, .int .i64 er]) (by simp [results, Tryz.results66, go_sem]; try omega) rfl ?_
          rw [HE.out]
          exact decq_no hB

set_option maxRecDepth 100000 in
set_option maxHeartbeats 16000000 in
theorem rdecode_nat (b : List UInt8) (kb : Nat) (v : Value) (M : Nat) (hM63 : M ≤ 9223372036854775807) (w : World) (hs : Src w kb v b) (hk : 0 < b.length → kb < w.heap.size) (hlen : b.length ≤ 1000000) :
    Calls Tryz.prog 66 #[v, .int .i64 (M : Int)] w (DecQ w (decR M b)) := by
  have HS : Hid (Src w kb v b) := hs
  obtain ⟨a, c, rfl, h1, h2, h3⟩ := hs
  obtain ⟨n, hn⟩ : ∃ n, n = b.length := ⟨_, rfl⟩
  rw [← hn] at HS ⊢
  have HN : Hid (n = b.length) := hn
  have HK : Hid (0 < b.length → kb < w.heap.size) := hk
  rw [← hn] at h1 hlen
  unfold maxLen at h2
  have HP0 : Hid (decR M b = plusD [] 0 (decL (n + 1) (M - 0) (b.drop 0))) := by
    rw [Hid, HN.out]; exact (plusD_zero _ (decL_ok _ _ _)).symm
  generalize decR M b = R at *
  have HCAN : Hid (∀ (wr : World) (at_ : Nat), at_ ≤ n → Below w.heap.size w wr → ∀ a' : Option Addr, (at_ < c → a' = a.map (fun x => x.add at_)) → Src wr kb (.slice a' (n - at_) (c - at_)) (b.drop at_)) := fun wr at_ h1 hB a' ha' => (HS.out.keep HK.out hB).cut (by have := HN.out; omega) ha'
  have HCELL : Hid (0 < n → ∃ off, a = some ⟨kb, off, none⟩ ∧ ∀ (wr : World) (j : Nat) (hj : j < b.length), Below w.heap.size w wr → wr.cell? ⟨kb, off + j, none⟩ = some (.int .u8 (b[j].toNat : Int))) := by
    intro hp
    obtain ⟨off, ha, hc⟩ := h3 (by omega)
    exact ⟨off, ha, fun wr j hj hB => (hB.cell (p := ⟨kb, off + j, none⟩) (HK.out (by omega))).trans (hc j hj)⟩
  have O0 := Own.empty w.heap.size w (Nat.le_refl _)
  have B0 : Below w.heap.size w (w.alloc (.cells #[] 5)) := (Below.refl _ _).alloc (Nat.le_refl _) _
  clear hn h3 hk
  go_enter Tryz.func66, Tryz.ntmps66
  go_wp2_with fail
  go_loopw [7, 8, 9] (fun v7 vt va wr => ∃ (at_ f : Nat) (acc : List UInt8), at_ ≤ n ∧ n < at_ + f ∧ acc.length ≤ at_ ∧ acc.length ≤ M ∧ va = .int .i64 at_ ∧ vt = .int .i64 acc.length ∧ Hid (Own w.heap.size wr v7 acc) ∧ Hid (R = plusD acc at_ (decL f (M - acc.length) (b.drop at_))) ∧ Below w.heap.size w wr) (fun _ _ va _ => n - (intOf va).toNat)
  case atStart => exact ⟨0, n + 1, [], Nat.zero_le _, by omega, Nat.le_refl _, Nat.zero_le _, rfl, rfl, O0, HP0, B0⟩
  case round =>
    obtain ⟨at_, f, acc, hat, hf, hacc, haM, rfl, rfl, hO, hR, hB⟩ := hrel
    clear HP0 O0 B0
    obtain ⟨a7, c7, rfl, hn7⟩ := hO.out.form
    obtain ⟨f, rfl⟩ : ∃ f', f = f' + 1 := ⟨f - 1, by omega⟩
    have HSA : Hid (∀ a' : Option Addr, (at_ < c → a' = a.map (fun x => x.add at_)) → Src wr kb (.slice a' (n - at_) (c - at_)) (b.drop at_)) := HCAN.out wr at_ hat hB
    have HCU : Hid (∀ v', Src wr kb v' (b.drop at_) → Calls Tryz.prog 88 #[v', .int .i64 256] wr fun e w' => e = .returned (cutV 256 (b.drop at_)) ∧ w' = wr) := fun v' h => rcut_any _ kb _ 256 wr h
    rcases cut_cases 256 (b.drop at_) with ⟨i, hcut, hil, _⟩ | ⟨er, hcut⟩
    · have hle : i ≤ 256 := cutAt_le 256 _ 0 i 0 (by decide) hcut
      rw [cutV_hit hcut] at HCU
      have hin : at_ + i + 2 ≤ n := by rw [List.length_drop] at hil; have := HN.out; omega
      have hnz : ((i : Int) + 2 == 0) = false := by simp; omega
      have HZ : Hid (Calls Tryz.prog 114 #[.string ⟨((b.drop at_).take i).toArray⟩] wr fun e w' => e = .returned (.tuple #[.int .i64 ((szO ((b.drop at_).take i)).getD 0 : Nat), .bool (szO ((b.drop at_).take i)).isSome]) ∧ w' = wr) := rsize_any (tx ((b.drop at_).take i)) wr (by rw [tx_size, List.length_take]; omega)
      generalize (⟨((b.drop at_).take i).toArray⟩ : ByteArray) = T at *
      cases hz : szO ((b.drop at_).take i) with
      | none =>
        rw [hz] at HZ
        have HE : Hid (R = ([], 0, 30)) := by
          have ho := oneP_hit (m := M - acc.length) hcut
          rw [hz] at ho
          rw [Hid, hR.out, decL_miss (show oneP (M - acc.length) (b.drop at_) = (30, 0, 0, 0) from ho)]; rfl
        clear hcut hR hz hil
        go_wp2_with fail
        all_goals
          refine (HCU.out _ (by first | exact HSA.out _ (fun _ => rfl) | exact HSA.out _ (fun h => if_neg (by omega)) | exact HSA.out _ (fun _ => by simp [addr_add]) | exact HSA.out _ (fun h => by rw [if_neg (by omega)]; simp [addr_add]) | (have hx := HSA.out a (fun h => by omega); rw [show c - at_ = 0 by omega] at hx; exact hx) | (have hx := HSA.out (some ⟨kb, off, none⟩) (fun h => by omega); rw [show c - at_ = 0 by omega] at hx; exact hx))).mono ?_
          rintro e w1 ⟨rfl, rfl⟩
          go_wp2_with fail
          refine HZ.out.mono ?_
          rintro e w2 ⟨rfl, rfl⟩
          go_wp2
          refine bodyPost_ret (v := .tuple #[.slice none 0 0, .int .i64 0, .int .i64 30]) (by simp [results, Tryz.results66, go_sem]; try omega) rfl ?_
          rw [HE.out]
          exact decq_no hB
      | some k =>
        rw [hz] at HZ
        have HZ2 : Hid (Calls Tryz.prog 114 #[.string T] wr fun e w' => e = .returned (.tuple #[.int .i64 (k : Int), .bool true]) ∧ w' = wr) := HZ
        clear HZ
        by_cases hk0 : k = 0
        · subst hk0
          have HR4 : Hid (R = plusD acc (at_ + i + 2) ([], trailL 40 (b.drop (at_ + i + 2)))) := by
            have ho := oneP_hit (m := M - acc.length) hcut
            rw [hz, oneK_some, if_neg (by omega), if_pos rfl] at ho
            rw [Hid, hR.out, decL_last ho (by omega), plusD_plusD _ _ _ _ _ (by omega), List.append_nil, List.drop_drop, ← Nat.add_assoc]
          have HO : Hid (Own w.heap.size wr (.slice a7 acc.length c7) acc) := hO
          have hB1 : Hid (Below w.heap.size w wr) := hB
          clear hcut hR hz hil hO hB
          go_wp2_with fail
          all_goals
            refine (HCU.out _ (by first | exact HSA.out _ (fun _ => rfl) | exact HSA.out _ (fun h => if_neg (by omega)) | exact HSA.out _ (fun _ => by simp [addr_add]) | exact HSA.out _ (fun h => by rw [if_neg (by omega)]; simp [addr_add]) | (have hx := HSA.out a (fun h => by omega); rw [show c - at_ = 0 by omega] at hx; exact hx) | (have hx := HSA.out (some ⟨kb, off, none⟩) (fun h => by omega); rw [show c - at_ = 0 by omega] at hx; exact hx))).mono ?_
            rintro e w1 ⟨rfl, rfl⟩
            go_wp2_with fail
            refine HZ2.out.mono ?_
            rintro e w2 ⟨rfl, rfl⟩
            go_wp2_with fail
            go_loopw [9, 18] (fun va vc wr => ∃ at2 r q : Nat, at2 ≤ n ∧ q + r = 40 ∧ va = .int .i64 at2 ∧ vc = .int .i64 q ∧ Hid (Own w.heap.size wr (.slice a7 acc.length c7) acc) ∧ Hid (R = plusD acc at2 ([], trailL r (b.drop at2))) ∧ Below w.heap.size w wr) (fun _ vc _ => 40 - (intOf vc).toNat)
            case atStart => exact ⟨at_ + i + 2, 40, 0, by omega, rfl, by go_num, rfl, HO, HR4, hB1.out⟩
            case round =>
              obtain ⟨at2, r, q, hat2, hr, rfl, rfl, hO2, hR2, hB⟩ := hrel
              clear HR4 HO hB1
              have HSA : Hid (∀ a' : Option Addr, (at2 < c → a' = a.map (fun x => x.add at2)) → Src wr kb (.slice a' (n - at2) (c - at2)) (b.drop at2)) := HCAN.out wr at2 hat2 hB
              have HCU : Hid (∀ v', Src wr kb v' (b.drop at2) → Calls Tryz.prog 88 #[v', .int .i64 256] wr fun e w' => e = .returned (cutV 256 (b.drop at2)) ∧ w' = wr) := fun v' h => rcut_any _ kb _ 256 wr h
              rcases cut_cases 256 (b.drop at2) with ⟨i2, hcut, hil, _⟩ | ⟨er, hcut⟩
              · have hle : i2 ≤ 256 := cutAt_le 256 _ 0 i2 0 (by decide) hcut
                rw [cutV_hit hcut] at HCU
                have hin : at2 + i2 + 2 ≤ n := by rw [List.length_drop] at hil; have := HN.out; omega
                by_cases hi : i2 = 0
                · subst hi
                  have HE : Hid (R = (acc, at2 + 2, 0)) := by rw [Hid, hR2.out, trailL_end hcut]; unfold plusD; rw [if_neg (by decide), List.append_nil]
                  rw [List.take_zero] at HCU
                  clear hcut hR2 hil
                  go_wp2_with fail
                  all_goals
                    refine (HCU.out _ (by first | exact HSA.out _ (fun _ => rfl) | exact HSA.out _ (fun h => if_neg (by omega)) | exact HSA.out _ (fun _ => by simp [addr_add]) | exact HSA.out _ (fun h => by rw [if_neg (by omega)]; simp [addr_add]) | (have hx := HSA.out a (fun h => by omega); rw [show c - at2 = 0 by omega] at hx; exact hx) | (have hx := HSA.out (some ⟨kb, off, none⟩) (fun h => by omega); rw [show c - at2 = 0 by omega] at hx; exact hx))).mono ?_
                    rintro e w1 ⟨rfl, rfl⟩
                    go_wp2
                    refine bodyPost_ret (v := .tuple #[.slice a7 acc.length c7, .int .i64 ((at2 + 2 : Nat) : Int), .int .i64 0]) (by simp [results, Tryz.results66, go_sem]; try omega) rfl ?_
                    rw [HE.out]
                    exact ⟨_, rfl, hO2.out, hB⟩
                · have hT : Hid (∀ W, Calls Tryz.prog 91 #[.string ⟨((b.drop at2).take i2).toArray⟩] W fun e w' => e = .returned (.tuple #[.agg #[.string (prs (tx ((b.drop at2).take i2))).1, .string (prs (tx ((b.drop at2).take i2))).2.1], .bool (decide ((prs (tx ((b.drop at2).take i2))).2.2 = 0))]) ∧ Below W.heap.size W w') := fun W => rparse_any (tx ((b.drop at2).take i2)) W (by rw [tx_size, List.length_take]; omega)
                  have hne : (⟨((b.drop at2).take i2).toArray⟩ : ByteArray).toList.isEmpty = false := isEmpty_of (by show ¬ ((b.drop at2).take i2).length = 0; rw [List.length_take]; omega)
                  have hfd : fldOk ((b.drop at2).take i2) = decide ((prs (tx ((b.drop at2).take i2))).2.2 = 0) := rfl
                  generalize prs (tx ((b.drop at2).take i2)) = pq at *
                  generalize (⟨((b.drop at2).take i2).toArray⟩ : ByteArray) = T at *
                  obtain ⟨q1, q2, q3⟩ := pq
                  simp only at hT hfd
                  have hnz : ((i2 : Int) + 2 == 0) = false := by simp; omega
                  cases hok : fldOk ((b.drop at2).take i2)
                  · have HE : Hid (R = ([], 0, 20)) := by rw [Hid, hR2.out, trailL_bad hcut hi hok]; rfl
                    rw [← hfd, hok] at hT
                    clear hcut hR2 hil hfd hok
                    go_wp2_with fail
                    all_goals
                      refine (HCU.out _ (by first | exact HSA.out _ (fun _ => rfl) | exact HSA.out _ (fun h => if_neg (by omega)) | exact HSA.out _ (fun _ => by simp [addr_add]) | exact HSA.out _ (fun h => by rw [if_neg (by omega)]; simp [addr_add]) | (have hx := HSA.out a (fun h => by omega); rw [show c - at2 = 0 by omega] at hx; exact hx) | (have hx := HSA.out (some ⟨kb, off, none⟩) (fun h => by omega); rw [show c - at2 = 0 by omega] at hx; exact hx))).mono ?_
                      rintro e w1 ⟨rfl, rfl⟩
                      go_wp2_with fail
                      refine (hT.out _).mono ?_
                      rintro e w2 ⟨rfl, B2⟩
                      have C2 := hB.trans (B2.mono hB.size)
                      have C3 := C2.alloc C2.size (.cells #[.string q1, .string q2] 41)
                      have BA2 := B2.alloc B2.size (.cells #[.string q1, .string q2] 41)
                      go_wp2
                      refine bodyPost_ret (v := .tuple #[.slice none 0 0, .int .i64 0, .int .i64 20]) (by simp [results, Tryz.results66, go_sem]; try omega) rfl ?_
                      rw [HE.out]
                      exact decq_no C3
                  · rw [← hfd, hok] at hT
                    clear hil hfd
                    cases r with
                    | zero =>
                      have HE : Hid (R = ([], 0, 3)) := by rw [Hid, hR2.out, trailL_many hcut hi hok]; rfl
                      obtain rfl : q = 40 := by omega
                      clear hcut hR2 hok
                      go_wp2_with fail
                      all_goals
                        refine (HCU.out _ (by first | exact HSA.out _ (fun _ => rfl) | exact HSA.out _ (fun h => if_neg (by omega)) | exact HSA.out _ (fun _ => by simp [addr_add]) | exact HSA.out _ (fun h => by rw [if_neg (by omega)]; simp [addr_add]) | (have hx := HSA.out a (fun h => by omega); rw [show c - at2 = 0 by omega] at hx; exact hx) | (have hx := HSA.out (some ⟨kb, off, none⟩) (fun h => by omega); rw [show c - at2 = 0 by omega] at hx; exact hx))).mono ?_
                        rintro e w1 ⟨rfl, rfl⟩
                        go_wp2_with fail
                        refine (hT.out _).mono ?_
                        rintro e w2 ⟨rfl, B2⟩
                        have C2 := hB.trans (B2.mono hB.size)
                        have C3 := C2.alloc C2.size (.cells #[.string q1, .string q2] 41)
                        have BA2 := B2.alloc B2.size (.cells #[.string q1, .string q2] 41)
                        go_wp2
                        refine bodyPost_ret (v := .tuple #[.slice none 0 0, .int .i64 0, .int .i64 3]) (by simp [results, Tryz.results66, go_sem]; try omega) rfl ?_
                        rw [HE.out]
                        exact decq_no C3
                    | succ r =>
                      have HE : Hid (R = plusD acc (at2 + i2 + 2) ([], trailL r (b.drop (at2 + i2 + 2)))) := by
                        rw [Hid, hR2.out, trailL_next hcut hi hok, plusD_plusN _ _ _ _ (by omega), List.drop_drop, ← Nat.add_assoc]
                      have hq : ¬ (40 : Int) < (q : Int) + 1 := by omega
                      clear hcut hR2 hok
                      go_wp2_with fail
                      all_goals
                        refine (HCU.out _ (by first | exact HSA.out _ (fun _ => rfl) | exact HSA.out _ (fun h => if_neg (by omega)) | exact HSA.out _ (fun _ => by simp [addr_add]) | exact HSA.out _ (fun h => by rw [if_neg (by omega)]; simp [addr_add]) | (have hx := HSA.out a (fun h => by omega); rw [show c - at2 = 0 by omega] at hx; exact hx) | (have hx := HSA.out (some ⟨kb, off, none⟩) (fun h => by omega); rw [show c - at2 = 0 by omega] at hx; exact hx))).mono ?_
                        rintro e w1 ⟨rfl, rfl⟩
                        go_wp2_with fail
                        refine (hT.out _).mono ?_
                        rintro e w2 ⟨rfl, B2⟩
                        have C2 := hB.trans (B2.mono hB.size)
                        have C3 := C2.alloc C2.size (.cells #[.string q1, .string q2] 41)
                        have BA2 := B2.alloc B2.size (.cells #[.string q1, .string q2] 41)
                        go_wp2
                        go_roundw
                        case rel => exact ⟨at2 + i2 + 2, r, q + 1, by omega, by omega, by go_num, by go_num, hO2.out.keep BA2, HE, C3⟩
                        case measure => simp [intOf]; omega
              · rw [cutV_miss hcut] at HCU
                have HE : Hid (R = ([], 0, er)) := by rw [Hid, hR2.out, trailL_miss hcut]; rfl
                clear hcut hR2
                by_cases h0 : er = 0
                · subst h0
                  go_wp2_with fail
                  all_goals
                    refine (HCU.out _ (by first | exact HSA.out _ (fun _ => rfl) | exact HSA.out _ (fun h => if_neg (by omega)) | exact HSA.out _ (fun _ => by simp [addr_add]) | exact HSA.out _ (fun h => by rw [if_neg (by omega)]; simp [addr_add]) | (have hx := HSA.out a (fun h => by omega); rw [show c - at2 = 0 by omega] at hx; exact hx) | (have hx := HSA.out (some ⟨kb, off, none⟩) (fun h => by omega); rw [show c - at2 = 0 by omega] at hx; exact hx))).mono ?_
                    rintro e w1 ⟨rfl, rfl⟩
                    go_wp2
                    refine bodyPost_ret (v := .tuple #[.slice none 0 0, .int .i64 0, .int .i64 0]) (by simp [results, Tryz.results66, go_sem]; try omega) rfl ?_
                    rw [HE.out]
                    exact decq_no hB
                · have h0' : (er != 0) = true := by simpa using h0
                  go_wp2_with fail
                  all_goals
                    refine (HCU.out _ (by first | exact HSA.out _ (fun _ => rfl) | exact HSA.out _ (fun h => if_neg (by omega)) | exact HSA.out _ (fun _ => by simp [addr_add]) | exact HSA.out _ (fun h => by rw [if_neg (by omega)]; simp [addr_add]) | (have hx := HSA.out a (fun h => by omega); rw [show c - at2 = 0 by omega] at hx; exact hx) | (have hx := HSA.out (some ⟨kb, off, none⟩) (fun h => by omega); rw [show c - at2 = 0 by omega] at hx; exact hx))).mono ?_
                    rintro e w1 ⟨rfl, rfl⟩
                    go_wp2
                    refine bodyPost_ret (v := .tuple #[.slice none 0 0, .int .i64 0, .int .i64 er]) (by simp [results, Tryz.results66, go_sem]; try omega) rfl ?_
                    rw [HE.out]
                    exact decq_no hB
        · have hkz : ((k : Int) == 0) = false := by simp; omega
          have hkz' : ¬ ((k : Int) = 0) := by omega
          by_cases hlong : M - acc.length < k
          · have HE : Hid (R = ([], 0, 2)) := by rw [Hid, hR.out, dec_chunk hcut hz hk0, if_pos hlong]; rfl
            have i1 : (M : Int) - (acc.length : Int) < (k : Int) := by omega
            clear hcut hR hz hil
            go_wp2_with fail
            all_goals
              refine (HCU.out _ (by first | exact HSA.out _ (fun _ => rfl) | exact HSA.out _ (fun h => if_neg (by omega)) | exact HSA.out _ (fun _ => by simp [addr_add]) | exact HSA.out _ (fun h => by rw [if_neg (by omega)]; simp [addr_add]) | (have hx := HSA.out a (fun h => by omega); rw [show c - at_ = 0 by omega] at hx; exact hx) | (have hx := HSA.out (some ⟨kb, off, none⟩) (fun h => by omega); rw [show c - at_ = 0 by omega] at hx; exact hx))).mono ?_
              rintro e w1 ⟨rfl, rfl⟩
              go_wp2_with fail
              refine HZ2.out.mono ?_
              rintro e w2 ⟨rfl, rfl⟩
              go_wp2
              refine bodyPost_ret (v := .tuple #[.slice none 0 0, .int .i64 0, .int .i64 2]) (by simp [results, Tryz.results66, go_sem]; try omega) rfl ?_
              rw [HE.out]
              exact decq_no hB
          · have i1 : ¬ (M : Int) - (acc.length : Int) < (k : Int) := by omega
            obtain ⟨off, rfl, hCC⟩ := HCELL.out (by omega)
            have HCC : Hid (∀ (wr : World) (j : Nat) (hj : j < b.length), Below w.heap.size w wr → wr.cell? ⟨kb, off + j, none⟩ = some (.int .u8 (b[j].toNat : Int))) := hCC
            clear hCC
            have HDC := dec_chunk (f := f) (m := M - acc.length) hcut hz hk0
            rw [if_neg hlong] at HDC
            have HR1 : Hid (R = plusD acc at_ (if (b.drop at_).length - (i + 2) < k then ([], 0, 0) else if (endsP ((b.drop at_).drop (i + 2 + k))).1 then plusD (((b.drop at_).drop (i + 2)).take k) (i + 2 + k + 2) (decL f (M - acc.length - k) ((b.drop at_).drop (i + 2 + k + 2))) else ([], 0, (endsP ((b.drop at_).drop (i + 2 + k))).2))) := by rw [Hid, hR.out, HDC]
            clear hcut hR hz hil HDC
            go_wp2_with fail
            all_goals
              refine (HCU.out _ (by first | exact HSA.out _ (fun _ => rfl) | exact HSA.out _ (fun h => if_neg (by omega)) | exact HSA.out _ (fun _ => by simp [addr_add]) | exact HSA.out _ (fun h => by rw [if_neg (by omega)]; simp [addr_add]) | (have hx := HSA.out a (fun h => by omega); rw [show c - at_ = 0 by omega] at hx; exact hx) | (have hx := HSA.out (some ⟨kb, off, none⟩) (fun h => by omega); rw [show c - at_ = 0 by omega] at hx; exact hx))).mono ?_
              rintro e w1 ⟨rfl, rfl⟩
              go_wp2_with fail
              refine HZ2.out.mono ?_
              rintro e w2 ⟨rfl, rfl⟩
              go_wp2_with fail
              go_loopw [7, 9, 15] (fun v7 va vj wx => ∃ j : Nat, j ≤ k ∧ at_ + i + 2 + j ≤ n ∧ va = .int .i64 ((at_ + i + 2 + j : Nat) : Int) ∧ vj = .int .i64 j ∧ Hid (Own w.heap.size wx v7 (acc ++ ((b.drop at_).drop (i + 2)).take j)) ∧ Hid (Below w.heap.size w wx)) (fun _ _ vj _ => k - (intOf vj).toNat)
              case atStart => exact ⟨0, Nat.zero_le _, by omega, by go_num, rfl, (by rw [List.take_zero, List.append_nil]; exact hO), hB⟩
              case round =>
                obtain ⟨j, hj, hjn, rfl, rfl, hO3, hB3⟩ := hrel
                clear hO hB
                obtain ⟨p, hp⟩ : ∃ p, p = at_ + i + 2 + j := ⟨_, rfl⟩
                rw [← hp] at hjn ⊢
                have HP : Hid (p = at_ + i + 2 + j) := hp
                have hdl : Hid ((b.drop at_).length = n - at_) := by rw [Hid, List.length_drop, ← HN.out]
                clear hp
                by_cases hjk : j < k
                · by_cases hend : p = n
                  · have HE : Hid (R = ([], 0, 0)) := by rw [Hid, HR1.out, if_pos (by rw [hdl.out]; have := HP.out; omega)]; rfl
                    have hen : ((p : Int) == (n : Int)) = true := by simp; omega
                    have hjk' : (j : Int) < (k : Int) := by omega
                    clear hend
                    go_wp2
                    refine bodyPost_ret (v := .tuple #[.slice none 0 0, .int .i64 0, .int .i64 0]) (by simp [results, Tryz.results66, go_sem]; try omega) rfl ?_
                    rw [HE.out]
                    exact decq_no hB3.out
                  · have hen : ((p : Int) == (n : Int)) = false := by simp; omega
                    have hen' : ¬ ((p : Int) = (n : Int)) := by omega
                    have hpb : p < b.length := by have := HN.out; omega
                    have hpn : (p : Int) < (n : Int) := by omega
                    have hcell := HCC.out _ p hpb hB3.out
                    have hsn : ((b.drop at_).drop (i + 2)).take (j + 1) = ((b.drop at_).drop (i + 2)).take j ++ [b[p]] := by
                      have hl : j < ((b.drop at_).drop (i + 2)).length := by rw [List.length_drop, hdl.out]; have := HP.out; omega
                      rw [List.take_succ_eq_append_getElem hl, List.getElem_drop, List.getElem_drop]
                      have e : at_ + (i + 2 + j) = p := by have := HP.out; omega
                      simp only [e]
                    have BA := fun W : World => (Below.refl W.heap.size W).alloc (Nat.le_refl _) (.cells #[.int .u8 (b[p].toNat : Int)] 5)
                    obtain ⟨v3, w3, r3, O3, B3⟩ := own_append (hO3.out.keep (BA _)) (lit_src _ [b[p]] 1 #[.int .u8 (b[p].toNat : Int)] (0, 0) rfl (by decide) rfl) (fun e => by cases e) (by rw [List.length_append, List.length_take, List.length_drop, hdl.out]; show _ + 1 ≤ _; omega) (Nat.le_trans hB3.out.size (BA _).size)
                    rw [List.append_assoc, ← hsn] at O3
                    have HO4 : Hid (Own w.heap.size w3 v3 (acc ++ ((b.drop at_).drop (i + 2)).take (j + 1))) := O3
                    have C3 := (hB3.out.trans ((BA _).mono hB3.out.size)).trans B3
                    have hjk' : (j : Int) < (k : Int) := by omega
                    clear O3 B3 BA hsn hO3 hend
                    generalize (b[p].toNat : Int) = z at *
                    go_wp2_with (at_builtin; refine wpList_append_run2 rfl _ _ 22 22 rfl _ _ _ w3 rfl rfl r3 ?_)
                    go_roundw
                    case rel => exact ⟨j + 1, by omega, by have := HP.out; omega, by have := HP.out; go_num, by go_num, HO4, C3⟩
                    case measure => simp [intOf]; omega
                · obtain rfl : j = k := by omega
                  have hjk' : ¬ (j : Int) < (j : Int) := by omega
                  have hR3 : R = plusD acc at_ (if (endsP ((b.drop at_).drop (i + 2 + j))).1 then plusD (((b.drop at_).drop (i + 2)).take j) (i + 2 + j + 2) (decL f (M - acc.length - j) ((b.drop at_).drop (i + 2 + j + 2))) else ([], 0, (endsP ((b.drop at_).drop (i + 2 + j))).2)) := by rw [HR1.out, if_neg (by rw [hdl.out]; have := HP.out; omega)]
                  rw [List.drop_drop, show at_ + (i + 2 + j) = p by have := HP.out; omega] at hR3
                  have HR3 : Hid (R = plusD acc at_ (if (endsP (b.drop p)).1 then plusD (((b.drop at_).drop (i + 2)).take j) (i + 2 + j + 2) (decL f (M - acc.length - j) ((b.drop at_).drop (i + 2 + j + 2))) else ([], 0, (endsP (b.drop p)).2))) := hR3
                  clear hR3 HR1
                  by_cases hend : p = n
                  · have HE : Hid (R = ([], 0, 0)) := by
                      rw [Hid, HR3.out, List.drop_eq_nil_of_le (by have := HN.out; omega)]; rfl
                    have hen : ((p : Int) == (n : Int)) = true := by simp; omega
                    clear hend
                    have C4 := hB3.out.alloc hB3.out.size (.cells #[.int .u8 13, .int .u8 10] 5)
                    go_wp2_with fail
                    refine wp_loop_rounds 1 ?_
                    rw [rounds_succ]
                    go_wp2
                    refine bodyPost_ret (v := .tuple #[.slice none 0 0, .int .i64 0, .int .i64 0]) (by simp [results, Tryz.results66, go_sem]; try omega) rfl ?_
                    rw [HE.out]
                    exact decq_no C4
                  · have hen : ((p : Int) == (n : Int)) = false := by simp; omega
                    have hen' : ¬ ((p : Int) = (n : Int)) := by omega
                    have hpb : p < b.length := by have := HN.out; omega
                    have hpn : (p : Int) < (n : Int) := by omega
                    have C4 := hB3.out.alloc hB3.out.size (.cells #[.int .u8 13, .int .u8 10] 5)
                    have q1 := HCC.out _ p hpb C4
                    have k1 : ∀ W : World, (W.alloc (.cells #[.int .u8 13, .int .u8 10] 5)).cell? ⟨W.heap.size, 0, none⟩ = some (.int .u8 13) := fun W => ring_cell (new_at W _) rfl
                    have k2 : ∀ W : World, (W.alloc (.cells #[.int .u8 13, .int .u8 10] 5)).cell? ⟨W.heap.size, 1, none⟩ = some (.int .u8 10) := fun W => ring_cell (new_at W _) rfl
                    by_cases t1 : b[p] = 13
                    · have hq1 : (b[p].toNat : Int) = 13 := by rw [t1]; rfl
                      rw [hq1] at q1
                      by_cases hend2 : p + 1 = n
                      · have HE : Hid (R = ([], 0, 0)) := by
                          have e : endsP (b.drop p) = (false, 0) := by
                            rw [List.drop_eq_getElem_cons hpb, List.drop_eq_nil_of_le (by have := HN.out; omega), t1]; rfl
                          rw [Hid, HR3.out, e]; rfl
                        have hen2 : ((p : Int) + 1 == (n : Int)) = true := by simp; omega
                        clear hend hend2 t1 hq1
                        go_wp2_with fail
                        refine wp_loop_rounds 2 ?_
                        rw [rounds_succ]
                        go_wp2
                        go_quiet (fail)
                        go_wp2
                        rw [rounds_succ]
                        go_wp2
                        refine bodyPost_ret (v := .tuple #[.slice none 0 0, .int .i64 0, .int .i64 0]) (by simp [results, Tryz.results66, go_sem]; try omega) rfl ?_
                        rw [HE.out]
                        exact decq_no (by simpa using C4.trans (below_drewN _ _ nq))
                      · have hpb1 : p + 1 < b.length := by have := HN.out; omega
                        have hpn1 : (p : Int) + 1 < (n : Int) := by omega
                        have hen2 : ((p : Int) + 1 == (n : Int)) = false := by simp; omega
                        have q2 := HCC.out _ (p + 1) hpb1 C4
                        by_cases t2 : b[p + 1] = 10
                        · have HDL : Hid ((acc ++ ((b.drop at_).drop (i + 2)).take j).length = acc.length + j) := by rw [Hid, List.length_append, List.length_take, List.length_drop, hdl.out]; have := HP.out; omega
                          have HE : Hid (R = plusD (acc ++ ((b.drop at_).drop (i + 2)).take j) (at_ + (i + 2 + j + 2)) (decL f (M - (acc ++ ((b.drop at_).drop (i + 2)).take j).length) (b.drop (at_ + (i + 2 + j + 2))))) := by
                            have e : endsP (b.drop p) = (true, 0) := by
                              rw [List.drop_eq_getElem_cons hpb, List.drop_eq_getElem_cons hpb1, t1, t2]; rfl
                            have hdd : (b.drop at_).drop (i + 2 + j + 2) = b.drop (at_ + (i + 2 + j + 2)) := List.drop_drop
                            rw [Hid, HR3.out, e, if_pos rfl, plusD_plusD _ _ _ _ _ (by omega), HDL.out, Nat.sub_sub, hdd]
                          have hq2 : (b[p + 1].toNat : Int) = 10 := by rw [t2]; rfl
                          rw [hq2] at q2
                          have HOW := hidmk (fun q : Nat => (hO3.out.keep ((Below.refl _ _).alloc (Nat.le_refl _) (.cells #[.int .u8 13, .int .u8 10] 5))).keep (below_drewN _ _ q))
                          have HCW := hidmk (fun q : Nat => C4.trans (below_drewN w.heap.size _ q))
                          clear hend hend2 t1 t2 hq1 hq2
                          go_wp2_with fail
                          refine wp_loop_rounds 3 ?_
                          rw [rounds_succ]
                          go_wp2
                          go_quiet (fail)
                          go_wp2
                          rw [rounds_succ]
                          go_wp2
                          go_quiet (fail)
                          go_wp2
                          rw [rounds_succ]
                          go_wp2
                          go_roundw
                          case rel => exact ⟨at_ + (i + 2 + j + 2), f, acc ++ ((b.drop at_).drop (i + 2)).take j, by have := HP.out; omega, by have := HP.out; omega, by rw [HDL.out]; omega, by rw [HDL.out]; omega, by have := HP.out; go_num, by rw [HDL.out]; go_num, HOW.out _, HE, HCW.out _⟩
                          case measure => have := HP.out; simp [intOf]; omega
                        · have HE : Hid (R = ([], 0, 20)) := by
                            have e : endsP (b.drop p) = (false, 20) := by
                              rw [List.drop_eq_getElem_cons hpb, List.drop_eq_getElem_cons hpb1, t1]
                              simp [endsP, t2]
                            rw [Hid, HR3.out, e]; rfl
                          have t5 : ((b[p + 1].toNat : Int) != 10) = true := by simpa using toNat_ne 10 10 rfl t2
                          clear hend hend2 t1 t2 hq1
                          generalize (b[p + 1].toNat : Int) = Y at *
                          go_wp2_with fail
                          refine wp_loop_rounds 2 ?_
                          rw [rounds_succ]
                          go_wp2
                          go_quiet (fail)
                          go_wp2
                          rw [rounds_succ]
                          go_wp2
                          go_quiet (fail)
                          go_wp2
                          refine bodyPost_ret (v := .tuple #[.slice none 0 0, .int .i64 0, .int .i64 20]) (by simp [results, Tryz.results66, go_sem]; try omega) rfl ?_
                          rw [HE.out]
                          exact decq_no (by simpa using C4.trans (below_drewN _ _ _))
                    · have HE : Hid (R = ([], 0, 20)) := by
                        have e : endsP (b.drop p) = (false, 20) := by
                          rw [List.drop_eq_getElem_cons hpb]
                          simp [endsP, t1]
                        rw [Hid, HR3.out, e]; rfl
                      have t5 : ((b[p].toNat : Int) != 13) = true := by simpa using toNat_ne 13 13 rfl t1
                      clear hend t1
                      generalize (b[p].toNat : Int) = X at *
                      go_wp2_with fail
                      refine wp_loop_rounds 1 ?_
                      rw [rounds_succ]
                      go_wp2
                      go_quiet (fail)
                      go_wp2
                      refine bodyPost_ret (v := .tuple #[.slice none 0 0, .int .i64 0, .int .i64 20]) (by simp [results, Tryz.results66, go_sem]; try omega) rfl ?_
                      rw [HE.out]
                      exact decq_no (by simpa using C4.trans (below_drewN _ _ nq))
    · rw [cutV_miss hcut] at HCU
      have HE : Hid (R = ([], 0, er)) := by rw [Hid, hR.out, decL_miss (oneP_miss hcut)]; rfl
      clear hcut hR
      by_cases h0 : er = 0
      · subst h0
        go_wp2_with fail
        all_goals
          refine (HCU.out _ (by first | exact HSA.out _ (fun _ => rfl) | exact HSA.out _ (fun h => if_neg (by omega)) | exact HSA.out _ (fun _ => by simp [addr_add]) | exact HSA.out _ (fun h => by rw [if_neg (by omega)]; simp [addr_add]) | (have hx := HSA.out a (fun h => by omega); rw [show c - at_ = 0 by omega] at hx; exact hx) | (have hx := HSA.out (some ⟨kb, off, none⟩) (fun h => by omega); rw [show c - at_ = 0 by omega] at hx; exact hx))).mono ?_
          rintro e w1 ⟨rfl, rfl⟩
          go_wp2
          refine bodyPost_ret (v := .tuple #[.slice none 0 0, .int .i64 0, .int .i64 0]) (by simp [results, Tryz.results66, go_sem]; try omega) rfl ?_
          rw [HE.out]
          exact decq_no hB
      · have h0' : (er != 0) = true := by simpa using h0
        go_wp2_with fail
        all_goals
          refine (HCU.out _ (by first | exact HSA.out _ (fun _ => rfl) | exact HSA.out _ (fun h => if_neg (by omega)) | exact HSA.out _ (fun _ => by simp [addr_add]) | exact HSA.out _ (fun h => by rw [if_neg (by omega)]; simp [addr_add]) | (have hx := HSA.out a (fun h => by omega); rw [show c - at_ = 0 by omega] at hx; exact hx) | (have hx := HSA.out (some ⟨kb, off, none⟩) (fun h => by omega); rw [show c - at_ = 0 by omega] at hx; exact hx))).mono ?_
          rintro e w1 ⟨rfl, rfl⟩
          go_wp2
          refine bodyPost_ret (v := .tuple #[.slice none 0 0, .int .i64 0, .int .i64 er]) (by simp [results, Tryz.results66, go_sem]; try omega) rfl ?_
          rw [HE.out]
          exact decq_no hB

theorem rdecode_any (b : List UInt8) (kb : Nat) (v : Value) (most : Int) (w : World) (hs : Src w kb v b) (hk : 0 < b.length → kb < w.heap.size) (hlen : b.length ≤ 1000000) (hmost : most ≤ 9223372036854775807) :
    Calls Tryz.prog 66 #[v, .int .i64 most] w (DecQ w (decR most.toNat b)) := by
  by_cases h : most < 0
  · rw [show most.toNat = 0 by omega]
    exact rdecode_neg b kb v most h w hs hk hlen
  · obtain ⟨M, rfl⟩ := Int.eq_ofNat_of_zero_le (show 0 ≤ most by omega)
    rw [Int.toNat_natCast]
    exact rdecode_nat b kb v M (by omega) w hs hk hlen
end Go.Proofs.YtkdnckkdofoaoaaGreatDoor
