/- ChunkSizes, walked. -/
import Derived.Test.YtbmpfjmnedlahacDoorChkG
import Derived.Test.YtbmpfjmnedlahacDoorChkR
import Derived.Test.YtbmpfjmnedlahacDoorSamB
import Derived.Test.YtbmpfjmnedlahacDoorPcs
import Derived.Test.YtbmpfjmnedlahacDoorAccS
namespace Go.Proofs.YtbmpfjmnedlahacDoor
open Go.RowKit
set_option linter.unusedVariables false

theorem dsm_get (D : ByteArray) (hD : D = ⟨#[48, 49, 50, 51, 52, 53, 54, 55, 56, 57, 97, 98, 99, 100, 101, 102]⟩) (d : Nat) (h : d < 16) (h' : d < D.size) : D[d] = dgt false d := by
  subst hD
  have h10 : d = 0 ∨ d = 1 ∨ d = 2 ∨ d = 3 ∨ d = 4 ∨ d = 5 ∨ d = 6 ∨ d = 7 ∨ d = 8 ∨ d = 9 ∨ d = 10 ∨ d = 11 ∨ d = 12 ∨ d = 13 ∨ d = 14 ∨ d = 15 := by omega
  rcases h10 with rfl | rfl | rfl | rfl | rfl | rfl | rfl | rfl | rfl | rfl | rfl | rfl | rfl | rfl | rfl | rfl <;> rfl
theorem dgr_get (D : ByteArray) (hD : D = ⟨#[48, 49, 50, 51, 52, 53, 54, 55, 56, 57, 65, 66, 67, 68, 69, 70]⟩) (d : Nat) (h : d < 16) (h' : d < D.size) : D[d] = dgt true d := by
  subst hD
  have h10 : d = 0 ∨ d = 1 ∨ d = 2 ∨ d = 3 ∨ d = 4 ∨ d = 5 ∨ d = 6 ∨ d = 7 ∨ d = 8 ∨ d = 9 ∨ d = 10 ∨ d = 11 ∨ d = 12 ∨ d = 13 ∨ d = 14 ∨ d = 15 := by omega
  rcases h10 with rfl | rfl | rfl | rfl | rfl | rfl | rfl | rfl | rfl | rfl | rfl | rfl | rfl | rfl | rfl | rfl <;> rfl

theorem ext_data (s : ByteArray) : ((⟨#[32, 59]⟩ : ByteArray) ++ s ++ ⟨#[13, 10]⟩).data.toList = 32 :: 59 :: s.data.toList ++ [13, 10] := by
  cases s with
  | mk d =>
    show ((⟨[32, 59].toArray⟩ : ByteArray) ++ ⟨d⟩ ++ ⟨#[13, 10]⟩).data.toList = _
    rw [cat_data, cat_data]
    rfl
theorem size_data (s : ByteArray) : s.size = s.data.toList.length := rfl
theorem ext_len (l : List UInt8) : (32 :: 59 :: l ++ [13, 10]).length = l.length + 4 := by simp
theorem szLine_len (z : Nat) (gr : Bool) (n : Nat) (wd : List UInt8) : (szLine z gr n wd).length = z + 2 + 1 + (wd.length + 1) := by
  unfold szLine
  simp only [List.length_append, List.length_cons, List.length_nil, szDig_len]
theorem line_app (X Z sl P : List UInt8) : X ++ Z ++ (32 :: 59 :: sl ++ [13, 10]) ++ P ++ [13, 10] = X ++ ((Z ++ [32] ++ 59 :: sl) ++ [13, 10] ++ P ++ [13, 10]) := by simp

set_option maxRecDepth 100000 in
set_option maxHeartbeats 8000000 in
theorem sizes6_walk (b off len cap : Nat) (nz : Int) (gr : Bool) (s : ByteArray) (w : World) (hb : b < w.heap.size) (hp : ∀ i, i < len → ∃ pa pc kp P, w.cell? ⟨b, off + i, none⟩ = some (.slice pa P.length pc) ∧ Src w kp (.slice pa P.length pc) P ∧ (0 < P.length → kp < w.heap.size) ∧ (pa = none → pc = 0)) (hM : MaxL w) (hT : TzOk w) :
    Calls Tryd.prog 3 #[.slice (some ⟨b, off, none⟩) len cap, .int .i64 nz, .bool gr, .string s] w fun e w' => e = .returned (.bool true) ∧ Below w.heap.size w w' := by
  obtain ⟨z, hz7, hbz0⟩ := and_mask nz 7 (by decide)
  have hbz : bits BinOp.and IntKind.i64 nz 7 = (z : Int) := hbz0
  clear hbz0
  have HP : Hid (∀ i, i < len → ∃ pa pc kp P, w.cell? ⟨b, off + i, none⟩ = some (.slice pa P.length pc) ∧ Src w kp (.slice pa P.length pc) P ∧ (0 < P.length → kp < w.heap.size) ∧ (pa = none → pc = 0)) := hp
  have HBW : Hid (b < w.heap.size) := hb
  clear hp hb
  go_enter Tryd.func3, Tryd.ntmps3
  go_wp2_with fail
  refine (alive6_any _ hM hT).mono ?_
  rintro e w1 ⟨rfl, B1⟩
  have HM : Hid (MaxL w) := hM
  clear hM hT
  by_cases hlen : len ≤ 10
  · have i1 : (len : Int) ≤ 10 := by omega
    by_cases hsz : s.size ≤ 50
    · have i2 : (s.size : Int) ≤ 50 := by omega
      have HBD : Hid (∀ W, Calls Tryd.prog 7 #[.string s] W fun e w' => e = .returned (.bool (!allB valP s.data.toList)) ∧ w' = W) := fun W => bad6_any s W (by omega)
      cases hbad : allB valP s.data.toList
      · rw [hbad] at HBD
        go_wp2_with fail
        refine (HBD.out _).mono ?_
        rintro e w2 ⟨rfl, rfl⟩
        go_wp2
        go_ret
        exact ⟨rfl, B1⟩
      · rw [hbad] at HBD
        have HV : Hid (allB valP s.data.toList = true) := hbad
        clear hbad
        go_wp2_with fail
        refine (HBD.out _).mono ?_
        rintro e w2 ⟨rfl, rfl⟩
        clear HBD
        have HT0 : Hid (Two w2 ((w2.alloc (.cells #[] 5)).alloc (.cells #[] 5)) (.slice (some ⟨w2.heap.size, 0, none⟩) 0 0) (.slice (some ⟨w2.heap.size + 1, 0, none⟩) 0 0) [] []) := Two.new w2 w2 (Below.refl _ _)
        have HB2 : Hid (Below w.heap.size w w2) := B1
        clear B1
        go_wp2_with fail
        go_loopw [9, 10, 36] (fun v9 v10 vi wr => ∃ (k : Nat) (X Y : List UInt8), k ≤ len ∧ vi = .int .i64 k ∧ Hid (Two w2 wr v9 v10 X Y) ∧ Hid (Chs X Y k) ∧ Hid (X.length ≤ 330 * k ∧ k ≤ X.length ∧ Y.length ≤ 255 * k)) (fun _ _ vi _ => len - (intOf vi).toNat)
        case atStart => exact ⟨0, [], [], Nat.zero_le _, rfl, HT0, Chs.nil, ⟨by decide, by decide, by decide⟩⟩
        case round =>
          obtain ⟨k, X, Y, hk, rfl, hT2, hC, hL⟩ := hrel
          clear HT0
          have HBR : Hid (Below w.heap.size w wr) := HB2.out.trans (hT2.out.bel.mono HB2.out.size)
          by_cases hlt : k < len
          · obtain ⟨pa, pc, kp, P, hc, hS, hkp, hnl⟩ := HP.out k hlt
            have hcell := (HBR.out.cell (p := ⟨b, off + k, none⟩) HBW.out).trans hc
            have hPl := hS.len
            obtain ⟨n, hn⟩ : ∃ n, n = P.length := ⟨_, rfl⟩
            rw [← hn] at hcell hS hPl
            have HNP : Hid (P.length = n) := hn.symm
            have HSP : Hid (Src w kp (.slice pa n pc) P) := hS
            have HKP : Hid (0 < P.length → kp < w.heap.size) := hkp
            have HNL : Hid (pa = none → pc = 0) := hnl
            have n1 := hPl.2.1
            have n2 := hPl.2.2
            unfold maxLen at n2
            clear hc hS hkp hnl hPl hn
            by_cases hn0 : n = 0
            · subst hn0
              go_wp2
              go_ret
              exact ⟨rfl, HBR.out⟩
            · have hn1 : ((n : Int) == 0) = false := by simp; omega
              by_cases hn255 : n ≤ 255
              · have hn2 : (n : Int) ≤ 255 := by omega
                have HTI : Hid (Two w2 wr u9 u10 (X ++ List.replicate 0 48) Y) := by rw [Hid, List.replicate_zero, List.append_nil]; exact hT2.out
                clear hT2 HBR
                go_wp2_with fail
                go_loopw [9, 13] (fun v9 vi wx => ∃ j : Nat, j ≤ z ∧ vi = .int .i64 j ∧ Hid (Two w2 wx v9 u10 (X ++ List.replicate j 48) Y)) (fun _ vi _ => z - (intOf vi).toNat)
                case atStart => exact ⟨0, Nat.zero_le _, rfl, HTI⟩
                case round =>
                  obtain ⟨j, hj, rfl, hT3⟩ := hrel
                  clear HTI hcell
                  by_cases hjz : j < z
                  · obtain ⟨v4, w4, r4, T4⟩ := (hT3.out.alloc (.cells #[.int .u8 48] 5)).app (lit_src _ [48] 1 #[.int .u8 48] (0, 0) rfl (by decide) rfl) (fun e => by cases e) (by have := hL.out; rw [List.length_append, List.length_replicate]; show _ + 1 ≤ _; omega)
                    have HT4 : Hid (Two w2 w4 v4 u10 (X ++ List.replicate (j + 1) 48) Y) := by rw [Hid, List.replicate_succ', ← List.append_assoc]; exact T4
                    clear T4
                    go_wp2_with (at_builtin; refine wpList_append_run2 rfl _ _ 25 25 rfl _ _ _ w4 rfl rfl r4 ?_)
                    go_roundw
                    case rel => exact ⟨j + 1, by omega, by go_num, HT4⟩
                    case measure => simp [intOf]; omega
                  · obtain rfl : j = z := by omega
                    obtain ⟨q, hq⟩ : ∃ q, q = n / 16 := ⟨_, rfl⟩
                    obtain ⟨r, hr⟩ : ∃ r, r = n % 16 := ⟨_, rfl⟩
                    have hdq : (n : Int).tdiv 16 = (q : Int) := by rw [hq, Int.tdiv_eq_ediv_of_nonneg (by omega)]; omega
                    have hdr : (n : Int).tmod 16 = (r : Int) := by rw [hr, Int.tmod_eq_emod_of_nonneg (by omega)]; omega
                    have hdq' : (n : Int) / 16 = (q : Int) := by omega
                    have hdr' : (n : Int) % 16 = (r : Int) := by omega
                    have hq16 : q < 16 := by omega
                    have hwq : IntKind.i64.wrap (q : Int) = (q : Int) := by rw [IntKind.wrap_i64]; omega
                    have hr16 : r < 16 := by omega
                    have HQ : Hid (q = n / 16) := hq
                    have HR : Hid (r = n % 16) := hr
                    clear hq hr
                    cases gr
                    · obtain ⟨D, hD⟩ : ∃ D : ByteArray, D = ⟨#[48, 49, 50, 51, 52, 53, 54, 55, 56, 57, 97, 98, 99, 100, 101, 102]⟩ := ⟨_, rfl⟩
                      have hqD : q < D.size := by rw [hD]; exact hq16
                      have hrD : r < D.size := by rw [hD]; exact hr16
                      have HEq : Hid (D[q] = dgt false q ∧ D[r] = dgt false r) := ⟨dsm_get D hD q hq16 hqD, dsm_get D hD r hr16 hrD⟩
                      have HTW : Hid (Two w2 ((wr.alloc (.cells #[.int .u8 (D[q].toNat : Int), .int .u8 (D[r].toNat : Int)] 5)).drew) u9 u10 (X ++ List.replicate j 48) Y) := (hT3.out.alloc _).drew
                      have HSW : Hid (Src ((wr.alloc (.cells #[.int .u8 (D[q].toNat : Int), .int .u8 (D[r].toNat : Int)] 5)).drew) wr.heap.size (.slice (some ⟨wr.heap.size, 0, none⟩) 2 2) [D[q], D[r]]) := (lit_src wr [D[q], D[r]] 2 #[.int .u8 (D[q].toNat : Int), .int .u8 (D[r].toNat : Int)] (0, 0) rfl (by decide) rfl).frame rfl
                      have HMX : Hid ((X ++ List.replicate j 48).length + [D[q], D[r]].length ≤ 140737488355328) := by have := hL.out; rw [Hid, List.length_append, List.length_replicate]; show _ + 2 ≤ _; omega
                      clear hT3
                      go_wp2_with fail
                      rw [← hD]
                      clear hD
                      go_region_held3 (fun _ => True) (go_keep) (first | (refine step_two2 rfl _ _ rfl rfl w2 _ _ _ _ rfl HTW.out _ _ _ _ _ rfl HSW.out (fun e => by cases e) HMX.out ?_; intro v4 w4 T4 F4))
                      all_goals
                        have HX4 : Hid (Two w2 w4 v4 u10 (X ++ szDig j false n) Y) := by
                          rw [Hid]
                          unfold szDig
                          rw [← List.append_assoc, ← HQ.out, ← HR.out, ← HEq.out.1, ← HEq.out.2]
                          exact T4
                        have hzl : (szDig j false n).length = j + 2 := szDig_len j false n
                        obtain ⟨S, hS⟩ : ∃ S : ByteArray, S = (⟨#[32, 59]⟩ : ByteArray) ++ s ++ ⟨#[13, 10]⟩ := ⟨_, rfl⟩
                        have hSd : S.data.toList = 32 :: 59 :: s.data.toList ++ [13, 10] := by rw [hS]; exact ext_data s
                        have hSs : S.data.toList.length = s.size + 4 := by rw [hSd, ext_len, ← size_data]
                        have hs1 := fun W => sum_run W ⟨#[32, 59]⟩ s (by show 2 + _ ≤ _; omega)
                        have hs2 := fun W => sum_run W ((⟨#[32, 59]⟩ : ByteArray) ++ s) ⟨#[13, 10]⟩ (by rw [ByteArray.size_append]; show 2 + _ + 2 ≤ _; omega)
                        rw [← hS] at hs2
                        have hLo := hL.out
                        have hPn := HNP.out
                        have e5 : (X ++ szDig j false n ++ S.data.toList).length ≤ 4000 := by rw [List.length_append, List.length_append]; omega
                        obtain ⟨v5, w5, r5, T5⟩ := HX4.out.appS (s := S) (by rw [List.length_append, size_data S]; omega)
                        obtain ⟨v6, w6, r6, T6⟩ := T5.app (HSP.out.keepB HKP.out (HB2.out.trans (T5.bel.mono HB2.out.size))) HNL.out (by omega)
                        have e6 : (X ++ szDig j false n ++ S.data.toList ++ P).length ≤ 5000 := by rw [List.length_append]; omega
                        obtain ⟨v7, w7, r7, T7⟩ := (T6.alloc (.cells #[.int .u8 13, .int .u8 10] 5)).app (lit_src w6 [13, 10] 2 #[.int .u8 13, .int .u8 10] (0, 0) rfl (by decide) rfl) (fun e => by cases e) (by show _ + 2 ≤ _; omega)
                        obtain ⟨v8, w8, r8, T8⟩ := T7.swap.app (HSP.out.keepB HKP.out (HB2.out.trans (T7.bel.mono HB2.out.size))) HNL.out (by omega)
                        have hSL := szLine_ok j false n s.data.toList (by omega) hn255 HV.out (by rw [← size_data]; omega)
                        have HT8 : Hid (Two w2 w8 v7 v8 (X ++ (szLine j false n s.data.toList ++ [13, 10] ++ P ++ [13, 10])) (Y ++ P)) := by
                          have h := T8.swap
                          rw [hSd, line_app] at h
                          exact h
                        have HC8 : Hid (Chs (X ++ (szLine j false n s.data.toList ++ [13, 10] ++ P ++ [13, 10])) (Y ++ P) (k + 1)) := hC.out.snoc _ P hSL.1 hSL.2.1 (by rw [hPn]; exact hSL.2.2) (by omega)
                        have HL8 : Hid ((X ++ (szLine j false n s.data.toList ++ [13, 10] ++ P ++ [13, 10])).length ≤ 330 * (k + 1) ∧ k + 1 ≤ (X ++ (szLine j false n s.data.toList ++ [13, 10] ++ P ++ [13, 10])).length ∧ (Y ++ P).length ≤ 255 * (k + 1)) := by
                          have hl : (szLine j false n s.data.toList).length = j + 2 + 1 + (s.size + 1) := by rw [szLine_len, ← size_data]
                          rw [Hid]
                          simp only [List.length_append, List.length_cons, List.length_nil, hl]
                          omega
                        clear T4 F4 HX4 HTW HSW HMX T5 T6 T7 T8 hS hSd hSs hzl hLo hPn hSL e5 e6
                        generalize X ++ (szLine j false n s.data.toList ++ [13, 10] ++ P ++ [13, 10]) = X' at *
                        generalize Y ++ P = Y' at *
                        go_wp2_with (at_builtin; first | refine wpList_append_run2 rfl _ _ 25 9 rfl _ _ _ w5 rfl rfl r5 ?_ | refine wpList_append_run2 rfl _ _ 25 25 rfl _ _ _ w6 rfl rfl r6 ?_ | refine wpList_append_run2 rfl _ _ 25 25 rfl _ _ _ w7 rfl rfl r7 ?_ | refine wpList_append_run2 rfl _ _ 25 25 rfl _ _ _ w8 rfl rfl r8 ?_)
                        go_roundw
                        case rel => exact ⟨k + 1, X', Y', by omega, by go_num, HT8, HC8, HL8⟩
                        case measure => simp [intOf]; omega
                    · obtain ⟨D, hD⟩ : ∃ D : ByteArray, D = ⟨#[48, 49, 50, 51, 52, 53, 54, 55, 56, 57, 65, 66, 67, 68, 69, 70]⟩ := ⟨_, rfl⟩
                      have hqD : q < D.size := by rw [hD]; exact hq16
                      have hrD : r < D.size := by rw [hD]; exact hr16
                      have HEq : Hid (D[q] = dgt true q ∧ D[r] = dgt true r) := ⟨dgr_get D hD q hq16 hqD, dgr_get D hD r hr16 hrD⟩
                      have HTW : Hid (Two w2 ((wr.alloc (.cells #[.int .u8 (D[q].toNat : Int), .int .u8 (D[r].toNat : Int)] 5)).drew) u9 u10 (X ++ List.replicate j 48) Y) := (hT3.out.alloc _).drew
                      have HSW : Hid (Src ((wr.alloc (.cells #[.int .u8 (D[q].toNat : Int), .int .u8 (D[r].toNat : Int)] 5)).drew) wr.heap.size (.slice (some ⟨wr.heap.size, 0, none⟩) 2 2) [D[q], D[r]]) := (lit_src wr [D[q], D[r]] 2 #[.int .u8 (D[q].toNat : Int), .int .u8 (D[r].toNat : Int)] (0, 0) rfl (by decide) rfl).frame rfl
                      have HMX : Hid ((X ++ List.replicate j 48).length + [D[q], D[r]].length ≤ 140737488355328) := by have := hL.out; rw [Hid, List.length_append, List.length_replicate]; show _ + 2 ≤ _; omega
                      clear hT3
                      go_wp2_with fail
                      rw [← hD]
                      clear hD
                      go_region_held3 (fun _ => True) (go_keep) (first | (refine step_two2 rfl _ _ rfl rfl w2 _ _ _ _ rfl HTW.out _ _ _ _ _ rfl HSW.out (fun e => by cases e) HMX.out ?_; intro v4 w4 T4 F4))
                      all_goals
                        have HX4 : Hid (Two w2 w4 v4 u10 (X ++ szDig j true n) Y) := by
                          rw [Hid]
                          unfold szDig
                          rw [← List.append_assoc, ← HQ.out, ← HR.out, ← HEq.out.1, ← HEq.out.2]
                          exact T4
                        have hzl : (szDig j true n).length = j + 2 := szDig_len j true n
                        obtain ⟨S, hS⟩ : ∃ S : ByteArray, S = (⟨#[32, 59]⟩ : ByteArray) ++ s ++ ⟨#[13, 10]⟩ := ⟨_, rfl⟩
                        have hSd : S.data.toList = 32 :: 59 :: s.data.toList ++ [13, 10] := by rw [hS]; exact ext_data s
                        have hSs : S.data.toList.length = s.size + 4 := by rw [hSd, ext_len, ← size_data]
                        have hs1 := fun W => sum_run W ⟨#[32, 59]⟩ s (by show 2 + _ ≤ _; omega)
                        have hs2 := fun W => sum_run W ((⟨#[32, 59]⟩ : ByteArray) ++ s) ⟨#[13, 10]⟩ (by rw [ByteArray.size_append]; show 2 + _ + 2 ≤ _; omega)
                        rw [← hS] at hs2
                        have hLo := hL.out
                        have hPn := HNP.out
                        have e5 : (X ++ szDig j true n ++ S.data.toList).length ≤ 4000 := by rw [List.length_append, List.length_append]; omega
                        obtain ⟨v5, w5, r5, T5⟩ := HX4.out.appS (s := S) (by rw [List.length_append, size_data S]; omega)
                        obtain ⟨v6, w6, r6, T6⟩ := T5.app (HSP.out.keepB HKP.out (HB2.out.trans (T5.bel.mono HB2.out.size))) HNL.out (by omega)
                        have e6 : (X ++ szDig j true n ++ S.data.toList ++ P).length ≤ 5000 := by rw [List.length_append]; omega
                        obtain ⟨v7, w7, r7, T7⟩ := (T6.alloc (.cells #[.int .u8 13, .int .u8 10] 5)).app (lit_src w6 [13, 10] 2 #[.int .u8 13, .int .u8 10] (0, 0) rfl (by decide) rfl) (fun e => by cases e) (by show _ + 2 ≤ _; omega)
                        obtain ⟨v8, w8, r8, T8⟩ := T7.swap.app (HSP.out.keepB HKP.out (HB2.out.trans (T7.bel.mono HB2.out.size))) HNL.out (by omega)
                        have hSL := szLine_ok j true n s.data.toList (by omega) hn255 HV.out (by rw [← size_data]; omega)
                        have HT8 : Hid (Two w2 w8 v7 v8 (X ++ (szLine j true n s.data.toList ++ [13, 10] ++ P ++ [13, 10])) (Y ++ P)) := by
                          have h := T8.swap
                          rw [hSd, line_app] at h
                          exact h
                        have HC8 : Hid (Chs (X ++ (szLine j true n s.data.toList ++ [13, 10] ++ P ++ [13, 10])) (Y ++ P) (k + 1)) := hC.out.snoc _ P hSL.1 hSL.2.1 (by rw [hPn]; exact hSL.2.2) (by omega)
                        have HL8 : Hid ((X ++ (szLine j true n s.data.toList ++ [13, 10] ++ P ++ [13, 10])).length ≤ 330 * (k + 1) ∧ k + 1 ≤ (X ++ (szLine j true n s.data.toList ++ [13, 10] ++ P ++ [13, 10])).length ∧ (Y ++ P).length ≤ 255 * (k + 1)) := by
                          have hl : (szLine j true n s.data.toList).length = j + 2 + 1 + (s.size + 1) := by rw [szLine_len, ← size_data]
                          rw [Hid]
                          simp only [List.length_append, List.length_cons, List.length_nil, hl]
                          omega
                        clear T4 F4 HX4 HTW HSW HMX T5 T6 T7 T8 hS hSd hSs hzl hLo hPn hSL e5 e6
                        generalize X ++ (szLine j true n s.data.toList ++ [13, 10] ++ P ++ [13, 10]) = X' at *
                        generalize Y ++ P = Y' at *
                        go_wp2_with (at_builtin; first | refine wpList_append_run2 rfl _ _ 25 9 rfl _ _ _ w5 rfl rfl r5 ?_ | refine wpList_append_run2 rfl _ _ 25 25 rfl _ _ _ w6 rfl rfl r6 ?_ | refine wpList_append_run2 rfl _ _ 25 25 rfl _ _ _ w7 rfl rfl r7 ?_ | refine wpList_append_run2 rfl _ _ 25 25 rfl _ _ _ w8 rfl rfl r8 ?_)
                        go_roundw
                        case rel => exact ⟨k + 1, X', Y', by omega, by go_num, HT8, HC8, HL8⟩
                        case measure => simp [intOf]; omega
              · have hn2 : (255 : Int) < (n : Int) := by omega
                go_wp2
                go_ret
                exact ⟨rfl, HBR.out⟩
          · obtain rfl : k = len := by omega
            have hLo := hL.out
            obtain ⟨v3, w3, r3, T3⟩ := hT2.out.appS (s := ⟨#[48, 13, 10, 13, 10]⟩) (by show _ + 5 ≤ _; omega)
            have hdec := hC.out.done 1048576 (by omega) hLo.2.1
            have C3 : Below w.heap.size w w3 := HB2.out.trans (T3.bel.mono HB2.out.size)
            obtain ⟨gx, gy, A1, A2, _, _, _, _⟩ := T3
            have A1' : Acc w3 gx v3 (X ++ [48, 13, 10, 13, 10]) := A1
            have hXl : (X ++ [48, 13, 10, 13, 10]).length ≤ 4000 := by rw [List.length_append]; show _ + 5 ≤ _; omega
            have hde := decode_any (X ++ [48, 13, 10, 13, 10]) gx v3 1048576 w3 A1'.src (fun _ => A1'.lt) (HM.out.below C3) (by omega) (by decide)
            rw [show (1048576 : Int).toNat = 1048576 from rfl, hdec] at hde
            obtain ⟨c1, rfl⟩ := A1'.form
            obtain ⟨c2, rfl⟩ := A2.form
            obtain ⟨x, hx⟩ : ∃ x, x = (X ++ [48, 13, 10, 13, 10]).length := ⟨_, rfl⟩
            obtain ⟨y, hy⟩ : ∃ y, y = Y.length := ⟨_, rfl⟩
            rw [← hx] at hde r3 hXl
            rw [← hy] at A2 ⊢
            have HDE : Hid (Calls Tryd.prog 8 #[.slice (some ⟨gx, 0, none⟩) x c1, .int .i64 1048576] w3 (DecQ w3 (Y, x, 0))) := hde
            have HAY : Hid (Acc w3 gy (.slice (some ⟨gy, 0, none⟩) y c2) Y) := A2
            have HY : Hid (y = Y.length) := hy
            have hy9 : y ≤ 4000 := by omega
            clear hde A2 hy hx A1 A1' hdec hLo hL hC hT2 HBR
            go_wp2_with (at_builtin; refine wpList_append_run2 rfl _ _ 25 9 rfl _ _ _ w3 rfl rfl r3 ?_)
            refine HDE.out.mono ?_
            rintro e w5 ⟨v5, rfl, O5, B5⟩
            have C5 := C3.trans (B5.mono C3.size)
            simp only at O5
            obtain ⟨k5, S5, _⟩ := O5.src
            obtain ⟨a5, c5, rfl, _⟩ := O5.form
            rw [← HY.out] at S5 ⊢
            have HSM : Hid (Calls Tryd.prog 9 #[.slice a5 y c5, .slice (some ⟨gy, 0, none⟩) y c2] w5 fun e w' => e = .returned (.bool true) ∧ Below w5.heap.size w5 w') := sameBytes_eq Y _ _ _ _ w5 S5 (HAY.out.src.keep (fun _ => HAY.out.lt) B5)
            clear S5 O5 HDE
            go_wp2_with fail
            refine HSM.out.mono ?_
            rintro e w6 ⟨rfl, B6⟩
            go_wp2
            go_ret
            exact ⟨rfl, C5.trans (B6.mono C5.size)⟩
    · have i2 : (50 : Int) < (s.size : Int) := by omega
      go_wp2
      go_ret
      exact ⟨rfl, B1⟩
  · have i1 : (10 : Int) < (len : Int) := by omega
    go_wp2
    go_ret
    exact ⟨rfl, B1⟩
set_option maxRecDepth 100000 in
set_option maxHeartbeats 8000000 in
theorem sizes6_zero (a : Option Addr) (cap : Nat) (nz : Int) (gr : Bool) (s : ByteArray) (w : World) (hM : MaxL w) (hT : TzOk w) :
    Calls Tryd.prog 3 #[.slice a 0 cap, .int .i64 nz, .bool gr, .string s] w fun e w' => e = .returned (.bool true) ∧ Below w.heap.size w w' := by
  go_enter Tryd.func3, Tryd.ntmps3
  go_wp2_with fail
  refine (alive6_any _ hM hT).mono ?_
  rintro e w1 ⟨rfl, B1⟩
  have HM : Hid (MaxL w) := hM
  clear hM hT
  by_cases hsz : s.size ≤ 50
  · have i2 : (s.size : Int) ≤ 50 := by omega
    have HBD : Hid (∀ W, Calls Tryd.prog 7 #[.string s] W fun e w' => e = .returned (.bool (!allB valP s.data.toList)) ∧ w' = W) := fun W => bad6_any s W (by omega)
    cases hbad : allB valP s.data.toList
    · rw [hbad] at HBD
      go_wp2_with fail
      refine (HBD.out _).mono ?_
      rintro e w2 ⟨rfl, rfl⟩
      go_wp2
      go_ret
      exact ⟨rfl, B1⟩
    · rw [hbad] at HBD
      have HV : Hid (allB valP s.data.toList = true) := hbad
      clear hbad
      go_wp2_with fail
      refine (HBD.out _).mono ?_
      rintro e w2 ⟨rfl, rfl⟩
      clear HBD
      have HT0 : Hid (Two w2 ((w2.alloc (.cells #[] 5)).alloc (.cells #[] 5)) (.slice (some ⟨w2.heap.size, 0, none⟩) 0 0) (.slice (some ⟨w2.heap.size + 1, 0, none⟩) 0 0) [] []) := Two.new w2 w2 (Below.refl _ _)
      have HB2 : Hid (Below w.heap.size w w2) := B1
      clear B1
      go_wp2_with fail
      go_loopw [9, 10, 36] (fun v9 v10 vi wr => ∃ (X Y : List UInt8), vi = .int .i64 0 ∧ Hid (Two w2 wr v9 v10 X Y) ∧ Hid (Chs X Y 0) ∧ Hid (X.length ≤ 0 ∧ Y.length ≤ 0)) (fun _ _ vi _ => 0)
      case atStart => exact ⟨[], [], rfl, HT0, Chs.nil, ⟨by decide, by decide⟩⟩
      case round =>
        obtain ⟨X, Y, rfl, hT2, hC, hL⟩ := hrel
        clear HT0
        have HBR : Hid (Below w.heap.size w wr) := HB2.out.trans (hT2.out.bel.mono HB2.out.size)
        have hLo := hL.out
        obtain ⟨v3, w3, r3, T3⟩ := hT2.out.appS (s := ⟨#[48, 13, 10, 13, 10]⟩) (by show _ + 5 ≤ _; omega)
        have hdec := hC.out.done 1048576 (by omega) (Nat.zero_le _)
        have C3 : Below w.heap.size w w3 := HB2.out.trans (T3.bel.mono HB2.out.size)
        obtain ⟨gx, gy, A1, A2, _, _, _, _⟩ := T3
        have A1' : Acc w3 gx v3 (X ++ [48, 13, 10, 13, 10]) := A1
        have hXl : (X ++ [48, 13, 10, 13, 10]).length ≤ 4000 := by rw [List.length_append]; show _ + 5 ≤ _; omega
        have hde := decode_any (X ++ [48, 13, 10, 13, 10]) gx v3 1048576 w3 A1'.src (fun _ => A1'.lt) (HM.out.below C3) (by omega) (by decide)
        rw [show (1048576 : Int).toNat = 1048576 from rfl, hdec] at hde
        obtain ⟨c1, rfl⟩ := A1'.form
        obtain ⟨c2, rfl⟩ := A2.form
        obtain ⟨x, hx⟩ : ∃ x, x = (X ++ [48, 13, 10, 13, 10]).length := ⟨_, rfl⟩
        obtain ⟨y, hy⟩ : ∃ y, y = Y.length := ⟨_, rfl⟩
        rw [← hx] at hde r3 hXl
        rw [← hy] at A2 ⊢
        have HDE : Hid (Calls Tryd.prog 8 #[.slice (some ⟨gx, 0, none⟩) x c1, .int .i64 1048576] w3 (DecQ w3 (Y, x, 0))) := hde
        have HAY : Hid (Acc w3 gy (.slice (some ⟨gy, 0, none⟩) y c2) Y) := A2
        have HY : Hid (y = Y.length) := hy
        have hy9 : y ≤ 4000 := by omega
        clear hde A2 hy hx A1 A1' hdec hLo hL hC hT2 HBR
        go_wp2_with (at_builtin; refine wpList_append_run2 rfl _ _ 25 9 rfl _ _ _ w3 rfl rfl r3 ?_)
        refine HDE.out.mono ?_
        rintro e w5 ⟨v5, rfl, O5, B5⟩
        have C5 := C3.trans (B5.mono C3.size)
        simp only at O5
        obtain ⟨k5, S5, _⟩ := O5.src
        obtain ⟨a5, c5, rfl, _⟩ := O5.form
        rw [← HY.out] at S5 ⊢
        have HSM : Hid (Calls Tryd.prog 9 #[.slice a5 y c5, .slice (some ⟨gy, 0, none⟩) y c2] w5 fun e w' => e = .returned (.bool true) ∧ Below w5.heap.size w5 w') := sameBytes_eq Y _ _ _ _ w5 S5 (HAY.out.src.keep (fun _ => HAY.out.lt) B5)
        clear S5 O5 HDE
        go_wp2_with fail
        refine HSM.out.mono ?_
        rintro e w6 ⟨rfl, B6⟩
        go_wp2
        go_ret
        exact ⟨rfl, C5.trans (B6.mono C5.size)⟩
  · have i2 : (50 : Int) < (s.size : Int) := by omega
    go_wp2
    go_ret
    exact ⟨rfl, B1⟩
theorem sizes6_law {a : Option Addr} {len : Nat} (cap : Nat) (nz : Int) (gr : Bool) (s : ByteArray) (w : World) (h : IsPieces w a len) (hM : MaxL w) (hT : TzOk w) :
    Calls Tryd.prog 3 #[.slice a len cap, .int .i64 nz, .bool gr, .string s] w fun e w' => e = .returned (.bool true) ∧ Below w.heap.size w w' := by
  obtain ⟨h1, h2⟩ := h
  rcases Nat.eq_zero_or_pos len with rfl | hp
  · exact sizes6_zero a cap nz gr s w hM hT
  · obtain ⟨b, off, rfl, hb, hc⟩ := h2 hp
    exact sizes6_walk b off len cap nz gr s w hb hc hM hT
end Go.Proofs.YtbmpfjmnedlahacDoor
