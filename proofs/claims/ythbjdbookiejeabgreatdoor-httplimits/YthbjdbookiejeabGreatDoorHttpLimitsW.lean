/- Whatever the two numbers, HttpLimits answers true: a head of as many bytes as may be, and of as many fields, is read; one of more is refused with 431; no condition. -/
import Derived.Test.YthbjdbookiejeabGreatDoorKl
import Derived.Test.YthbjdbookiejeabGreatDoorKh
import Derived.Test.YthbjdbookiejeabGreatDoorRows
import Derived.Test.YthbjdbookiejeabGreatDoorCards
import Derived.Test.YthbjdbookiejeabGreatDoorTie
import Derived.Test.YthbjdbookiejeabGreatDoorKf
import Derived.WalkKit
import Derived.ProofKit
import Derived.OpenShut
import Derived.ShutString
import Derived.ChangeOld
import Derived.Below
import Derived.LaidMore
import Derived.Lay
import Derived.Stop.Joined
import Derived.SevenTiedAt
import Derived.Shelf.Vars
import Derived.Deep.DeepHandedRow
import Derived.Deep.DeepWitnessRowRef
/- HttpLimits, plain: heads of many fields, and of many bytes. -/
namespace Go.Proofs.YthbjdbookiejeabGreatDoor
open Go.RowKit
set_option linter.unusedVariables false

def tA : ByteArray := ⟨#[97]⟩
def tF : ByteArray := ⟨#[102]⟩
def tV : ByteArray := ⟨#[118]⟩
def tX : ByteArray := ⟨#[88]⟩
def xs120 (n : Nat) : ByteArray := ⟨(List.replicate n 120).toArray⟩
theorem xs120_size (n : Nat) : (xs120 n).size = n := by
  show (List.replicate n (120 : UInt8)).toArray.size = n
  simp
theorem xs120_ok (n : Nat) (h : n ≤ 900) : okF tX (xs120 n) = true := by
  unfold okF
  rw [Bool.and_eq_true]
  refine ⟨by decide +kernel, ?_⟩
  unfold okVal eqT
  have e1 : allB valP (xs120 n).data.toList = true := by
    show allB valP (List.replicate n 120) = true
    unfold allB
    rw [List.all_eq_true]
    intro b hb
    rw [(List.mem_replicate.1 hb).2]
    decide +kernel
  have e2 : trimT (xs120 n) = xs120 n := by
    refine bytes_eq ?_
    show trimP (List.replicate n 120) = List.replicate n 120
    refine trim_same _ (fun b hb => ?_) (fun b hb => ?_)
    · have k := (List.mem_replicate.1 (List.mem_of_mem_head? hb)).2
      subst k; decide
    · have k := (List.mem_replicate.1 (List.mem_of_getLast? hb)).2
      subst k; decide
  rw [e2, e1, decide_eq_true (by rw [xs120_size]; omega)]
  simp
def sp1 : List UInt8 := [32]
theorem sp1_blk : ∀ b ∈ sp1, blk b = true := fun b hb => by rw [List.mem_singleton.1 hb]; decide
def limL (F : Nat) (xs : List Nat) : List (List UInt8) := linF tHost tA sp1 :: (List.replicate F (linF tF tV sp1) ++ xs.map fun n => linF tX (xs120 n) sp1)
def limF (F : Nat) (xs : List Nat) : Fs := (tHost, tA) :: (List.replicate F (tF, tV) ++ xs.map fun n => (tX, xs120 n))
theorem limL_good (F : Nat) (xs : List Nat) (h : ∀ n ∈ xs, n ≤ 900) : (∀ l ∈ limL F xs, GoodL l) ∧ (limL F xs).map fOf = limF F xs := by
  have g1 := good_lin (n := tHost) (v := tA) (by decide +kernel) sp1 sp1_blk (by decide)
  have g2 := good_lin (n := tF) (v := tV) (by decide +kernel) sp1 sp1_blk (by decide)
  have g3 := fun n (hn : n ≤ 900) => good_lin (xs120_ok n hn) sp1 sp1_blk (by decide)
  constructor
  · intro l hl
    rcases List.mem_cons.1 hl with k | k
    · rw [k]; exact g1.1
    · rcases List.mem_append.1 k with k | k
      · rw [(List.mem_replicate.1 k).2]; exact g2.1
      · obtain ⟨n, hn, rfl⟩ := List.mem_map.1 k
        exact (g3 n (h n hn)).1
  · unfold limL limF
    rw [List.map_cons, g1.2, List.map_append, List.map_replicate, g2.2, List.map_map]
    congr 2
    exact List.map_congr_left fun n hn => (g3 n (h n hn)).2
theorem limF_get (F : Nat) (xs : List Nat) (n : ByteArray) (h2 : smT tF n = false) (h3 : smT tX n = false) : getF (limF F xs) n = if smT tHost n = true then [tA] else [] := by
  have e1 : (List.replicate F (tF, tV)).filter (fun f => smT f.1 n) = [] := by
    rw [List.filter_eq_nil_iff]
    intro f hf
    rw [(List.mem_replicate.1 hf).2]
    simp [h2]
  have e2 : (xs.map fun n => (tX, xs120 n)).filter (fun f => smT f.1 n) = [] := by
    rw [List.filter_eq_nil_iff]
    intro f hf
    obtain ⟨m, _, rfl⟩ := List.mem_map.1 hf
    simp [h3]
  unfold getF limF
  rw [List.filter_cons, List.filter_append, e1, e2]
  simp only
  cases smT tHost n <;> rfl
def limB (F : Nat) (xs : List Nat) : List UInt8 := gFirst false ++ 13 :: 10 :: flatL (limL F xs)
theorem limB_tail (F : Nat) (xs : List Nat) : limB F xs ++ [13, 10] = gFirst false ++ 13 :: 10 :: (flatL (limL F xs) ++ 13 :: 10 :: []) := by unfold limB; simp
theorem limB_f (F : Nat) : limB (F + 1) [] = limB F [] ++ [102, 58, 32, 118, 13, 10] := by
  unfold limB limL
  rw [List.map_nil, List.append_nil, List.append_nil, List.replicate_succ']
  have e : linF tHost tA sp1 :: (List.replicate F (linF tF tV sp1) ++ [linF tF tV sp1]) = (linF tHost tA sp1 :: List.replicate F (linF tF tV sp1)) ++ [linF tF tV sp1] := rfl
  rw [e, flatL_app]
  have e2 : flatL [linF tF tV sp1] = [102, 58, 32, 118, 13, 10] := rfl
  rw [e2]
  simp
theorem limB_x (F : Nat) (xs : List Nat) (n : Nat) : limB F (xs ++ [n]) = limB F xs ++ [88, 58, 32] ++ List.replicate n 120 ++ [13, 10] := by
  unfold limB limL
  rw [List.map_append, ← List.append_assoc]
  have e : linF tHost tA sp1 :: (List.replicate F (linF tF tV sp1) ++ (xs.map fun n => linF tX (xs120 n) sp1) ++ [n].map fun n => linF tX (xs120 n) sp1) = (linF tHost tA sp1 :: (List.replicate F (linF tF tV sp1) ++ xs.map fun n => linF tX (xs120 n) sp1)) ++ [linF tX (xs120 n) sp1] := rfl
  rw [e, flatL_app]
  have e2 : flatL [linF tX (xs120 n) sp1] = [88, 58, 32] ++ List.replicate n 120 ++ [13, 10] := by
    unfold flatL linF xs120 tX sp1
    simp
  rw [e2]
  simp
theorem limL_len (F : Nat) (xs : List Nat) : (limL F xs).length = F + 1 + xs.length := by unfold limL; simp; omega
theorem limF_len (F : Nat) (xs : List Nat) : (limF F xs).length = F + 1 + xs.length := by unfold limF; simp; omega
theorem limB_len (F : Nat) (xs : List Nat) : (limB F xs).length = 16 + (flatL (limL F xs)).length := by
  unfold limB
  rw [List.length_append]
  show 14 + (_ + 1 + 1) = _
  omega
theorem reqQ_lim_ok (F : Nat) (xs : List Nat) (h : ∀ n ∈ xs, n ≤ 900) (hn : (limB F xs).length + 2 ≤ 2048) (h40 : F + 1 + xs.length ≤ 40) :
    reqQ (limB F xs ++ [13, 10]) = ⟨⟨#[71, 69, 84]⟩, ⟨#[47]⟩, 1, limF F xs, [], (limB F xs).length + 2, 0⟩ := by
  obtain ⟨g1, g2⟩ := limL_good F xs h
  have hr := gFirst_rq false
  have hl := limB_len F xs
  have hfl : (gFirst false).length = 14 := rfl
  have k := reqQ_lines (gFirst false) (limL F xs) [] rfl (by decide) (by unfold rqSt; rw [hr]) g1 (by rw [hfl]; omega) (by rw [limL_len]; omega) (by rw [g2, limF_get F xs tTE (by decide +kernel) (by decide +kernel), if_neg (by decide +kernel)]) (by rw [g2, limF_get F xs tCL (by decide +kernel) (by decide +kernel), if_neg (by decide +kernel)])
  have e1 : smT tHost tHost = true := by decide +kernel
  rw [g2, limF_get F xs tHost (by decide +kernel) (by decide +kernel), if_pos e1, hr] at k
  have e2 : hostsOk [tA] (miOf false) = true := by decide +kernel
  simp only at k
  rw [if_pos e2] at k
  rw [limB_tail, k, hfl]
  have e3 : 14 + 2 + ((flatL (limL F xs)).length + 2) = (limB F xs).length + 2 := by omega
  rw [e3]
  rfl
theorem reqQ_lim_no (F : Nat) (xs : List Nat) (h : ∀ n ∈ xs, n ≤ 900) (hn : ¬ ((limB F xs).length + 2 ≤ 2048 ∧ F + 1 + xs.length ≤ 40)) :
    reqQ (limB F xs ++ [13, 10]) = rdNo 431 := by
  obtain ⟨g1, g2⟩ := limL_good F xs h
  have hr := gFirst_rq false
  have hl := limB_len F xs
  have hfl : (gFirst false).length = 14 := rfl
  rw [limB_tail]
  refine reqQ_refused (gFirst false) (limL F xs) [] rfl (by decide) (by unfold rqSt; rw [hr]) g1 ?_
  rw [hfl, limL_len]
  intro k
  exact hn ⟨by omega, k.2⟩
end Go.Proofs.YthbjdbookiejeabGreatDoor

/- HttpLimits walked. -/
namespace Go.Proofs.YthbjdbookiejeabGreatDoor
open Go.RowKit
set_option linter.unusedVariables false

set_option maxRecDepth 100000 in
set_option maxHeartbeats 8000000 in
theorem limits8_walk (f0 z0 : Int) (w : World) (hL : Lv w) :
    Calls Tryz.prog 4 #[.int .i64 f0, .int .i64 z0] w fun e w' => e = .returned (.bool true) ∧ Below w.heap.size w w' := by
  have HA : Hid (Calls Tryz.prog 9 #[] w fun e w' => e = .returned (.bool true) ∧ Below w.heap.size w w') := asking_any w hL
  have HL : Hid (Lv w) := hL
  clear hL
  obtain ⟨F, hF, hbF0⟩ := and_mask f0 63 (by decide)
  have hbF : bits BinOp.and IntKind.i64 f0 63 = (F : Int) := hbF0
  obtain ⟨x, hx, hbx0⟩ := and_mask z0 255 (by decide)
  have hbx : bits BinOp.and IntKind.i64 z0 255 = (x : Int) := hbx0
  clear hbF0 hbx0
  obtain ⟨Z, hZ⟩ : ∃ Z : Nat, Z = 1900 + x := ⟨_, rfl⟩
  have hsum : IntKind.i64.wrap ((1900 : Int) + (x : Int)) = (Z : Int) := by rw [hZ]; simp [IntKind.wrap, IntKind.bits, IntKind.signed]; omega
  have hZ2 : Z ≤ 2155 := by omega
  have hZ1 : 1900 ≤ Z := by omega
  clear hZ hx
  have HS0 : Hid ((⟨#[71, 69, 84, 32, 47, 32, 72, 84, 84, 80, 47, 49, 46, 49, 13, 10, 72, 111, 115, 116, 58, 32, 97, 13, 10]⟩ : ByteArray).data.toList = limB 0 []) := rfl
  go_enter Tryz.func4, Tryz.ntmps4
  go_wp2_with fail
  refine HA.out.mono ?_
  rintro e w1 ⟨rfl, B1⟩
  clear HA
  go_wp2_with fail
  go_loopw [5, 6] (fun v5 vi wr => ∃ (k : Nat) (s : ByteArray), k ≤ F ∧ vi = .int .i64 k ∧ v5 = .string s ∧ s.size = 25 + 6 * k ∧ Hid (s.data.toList = limB k []) ∧ Hid (wr = w1)) (fun _ vi _ => F - (intOf vi).toNat)
  case atStart => exact ⟨0, ⟨#[71, 69, 84, 32, 47, 32, 72, 84, 84, 80, 47, 49, 46, 49, 13, 10, 72, 111, 115, 116, 58, 32, 97, 13, 10]⟩, Nat.zero_le _, rfl, rfl, rfl, HS0, rfl⟩
  case round =>
    obtain ⟨k, s, hk, rfl, rfl, hsz, HSD, HWR⟩ := hrel
    have hsz' : s.size ≤ 403 := by omega
    have HSZ : Hid (s.size = 25 + 6 * k) := hsz
    clear hsz HS0
    by_cases hlt : k < F
    · have c1 := fun W : World => sum_run W s ⟨#[102, 58, 32, 118, 13, 10]⟩ (by show _ + 6 ≤ _; omega)
      have HS1 : Hid ((s ++ ⟨#[102, 58, 32, 118, 13, 10]⟩ : ByteArray).data.toList = limB (k + 1) []) := by
        rw [Hid, limB_f, ByteArray.data_append, Array.toList_append, HSD.out]
      have HS2 : Hid ((s ++ ⟨#[102, 58, 32, 118, 13, 10]⟩ : ByteArray).size = 25 + 6 * (k + 1)) := by
        rw [Hid, ByteArray.size_append, HSZ.out]
        show 25 + 6 * k + 6 = _
        omega
      clear HSD HSZ
      go_wp2
      go_roundw
      case rel => exact ⟨k + 1, _, by omega, by go_num, rfl, HS2.out, HS1, HWR⟩
      case measure => simp [intOf]; omega
    · have hk' : k = F := by omega
      subst hk'
      have hsl : Hid (25 + 6 * k + 5 * ([] : List Nat).length ≤ s.size) := by rw [Hid, HSZ.out]; exact Nat.le_refl _
      have hcw : IntKind.i64.wrap ((k : Int) + 1) = ((k + 1 : Nat) : Int) := by simp [IntKind.wrap, IntKind.bits, IntKind.signed]; omega
      have HF : Hid (k ≤ 63) := hF
      have hsz2 : s.size ≤ 2155 := by omega
      have HSD0 : Hid (s.data.toList = limB k []) := HSD
      clear HSZ HSD hk hlt
      generalize k = F at *
      go_wp2_with fail
      go_loopw [5, 7] (fun v5 vc wr => ∃ (xs : List Nat) (s : ByteArray), vc = .int .i64 ((F + 1 + xs.length : Nat) : Int) ∧ v5 = .string s ∧ s.size ≤ Z ∧ Hid (25 + 6 * F + 5 * xs.length ≤ s.size) ∧ Hid (∀ n ∈ xs, n ≤ 900) ∧ Hid (s.data.toList = limB F xs) ∧ Hid (wr = w1)) (fun v5 _ _ => Z + 7 - (match v5 with | .string s => s.size | _ => 0))
      case atStart => exact ⟨[], s, rfl, rfl, by omega, hsl, (fun n hn => by cases hn), HSD0, HWR⟩
      case round =>
        obtain ⟨xs, s, rfl, rfl, hsZ, HLN, HXS, HSD, HWR⟩ := hrel
        have hxl : F + 1 + xs.length ≤ 500 := by have := HLN.out; have := HF.out; omega
        obtain ⟨cn, hcn⟩ : ∃ cn, cn = F + 1 + xs.length := ⟨_, rfl⟩
        rw [← hcn] at hxl ⊢
        have HCN : Hid (cn = F + 1 + xs.length) := hcn
        clear hcn
        have hw2 : IntKind.i64.wrap ((s.size : Int) + 2) = ((s.size + 2 : Nat) : Int) := by simp [IntKind.wrap, IntKind.bits, IntKind.signed]; omega
        have hw7 : IntKind.i64.wrap (((s.size + 2 : Nat) : Int) + 5) = ((s.size + 7 : Nat) : Int) := by simp [IntKind.wrap, IntKind.bits, IntKind.signed]; omega
        by_cases hle : s.size + 7 ≤ Z
        · obtain ⟨m, hm⟩ : ∃ m, m = min 900 (Z - s.size - 7) := ⟨_, rfl⟩
          have hm9 : m ≤ 900 := by omega
          have hw1 : IntKind.i64.wrap ((Z : Int) - (s.size : Int)) = ((Z - s.size : Nat) : Int) := by simp [IntKind.wrap, IntKind.bits, IntKind.signed]; omega
          have hw3 : IntKind.i64.wrap (((Z - s.size : Nat) : Int) - 2) = ((Z - s.size - 2 : Nat) : Int) := by simp [IntKind.wrap, IntKind.bits, IntKind.signed]; omega
          have hw4 : IntKind.i64.wrap (((Z - s.size - 2 : Nat) : Int) - 5) = ((Z - s.size - 7 : Nat) : Int) := by simp [IntKind.wrap, IntKind.bits, IntKind.signed]; omega
          have hmin : min (900 : Int) ((Z - s.size - 7 : Nat) : Int) = (m : Int) := by omega
          have hleI : ((s.size + 7 : Nat) : Int) ≤ (Z : Int) := by omega
          have hmz : s.size + m + 5 ≤ Z := by omega
          have HMZ : Hid (s.size + m + 5 ≤ Z) := hmz
          have c1 := fun W : World => sum_run W s ⟨#[88, 58, 32]⟩ (by show _ + 3 ≤ _; omega)
          clear hm hmz
          obtain ⟨S1, hS1⟩ : ∃ S1 : ByteArray, S1 = s ++ ⟨#[88, 58, 32]⟩ := ⟨_, rfl⟩
          rw [← hS1] at c1
          have HS1 : Hid (S1.data.toList = limB F xs ++ [88, 58, 32]) := by rw [Hid, hS1, ByteArray.data_append, Array.toList_append, HSD.out]
          have HS1s : Hid (S1.size = s.size + 3) := by rw [Hid, hS1, ByteArray.size_append]; rfl
          have hS1b : S1.size ≤ 2158 := by have := HS1s.out; omega
          clear hS1
          go_wp2_with fail
          go_loopw [5, 9] (fun v5 vi wr => ∃ (j : Nat) (t : ByteArray), j ≤ m ∧ vi = .int .i64 j ∧ v5 = .string t ∧ Hid (t.size = S1.size + j) ∧ Hid (t.data.toList = S1.data.toList ++ List.replicate j 120) ∧ Hid (wr = w1)) (fun _ vi _ => m - (intOf vi).toNat)
          case atStart => exact ⟨0, S1, Nat.zero_le _, rfl, rfl, rfl, by rw [Hid]; simp, HWR⟩
          case round =>
            obtain ⟨j, t, hj, rfl, rfl, HTS, HTD, HWR⟩ := hrel
            have htb : t.size ≤ 3058 := by have := HTS.out; omega
            by_cases hjl : j < m
            · have d1 := fun W : World => sum_run W t ⟨#[120]⟩ (by show _ + 1 ≤ _; omega)
              have HT1 : Hid ((t ++ ⟨#[120]⟩ : ByteArray).size = S1.size + (j + 1)) := by
                rw [Hid, ByteArray.size_append, HTS.out]
                show S1.size + j + 1 = _
                omega
              have HT2 : Hid ((t ++ ⟨#[120]⟩ : ByteArray).data.toList = S1.data.toList ++ List.replicate (j + 1) 120) := by
                rw [Hid, ByteArray.data_append, Array.toList_append, HTD.out, List.replicate_succ', List.append_assoc]
              clear HTS HTD
              go_wp2
              go_roundw
              case rel => exact ⟨j + 1, _, by omega, by go_num, rfl, HT1, HT2, HWR⟩
              case measure => simp [intOf]; omega
            · have hj' : j = m := by omega
              subst hj'
              have d1 := fun W : World => sum_run W t ⟨#[13, 10]⟩ (by show _ + 2 ≤ _; omega)
              have HT1 : Hid ((t ++ ⟨#[13, 10]⟩ : ByteArray).size = s.size + j + 5) := by
                rw [Hid, ByteArray.size_append, HTS.out, HS1s.out]
                show s.size + 3 + j + 2 = _
                omega
              have HT2 : Hid ((t ++ ⟨#[13, 10]⟩ : ByteArray).data.toList = limB F (xs ++ [j])) := by
                rw [Hid, ByteArray.data_append, Array.toList_append, HTD.out, HS1.out, limB_x]
              have hcw2 : IntKind.i64.wrap ((cn : Int) + 1) = ((cn + 1 : Nat) : Int) := by simp [IntKind.wrap, IntKind.bits, IntKind.signed]; omega
              have HCN2 : Hid (cn + 1 = F + 1 + (xs ++ [j]).length) := by rw [Hid, HCN.out, List.length_append]; rfl
              have HX2 : Hid (∀ n ∈ xs ++ [j], n ≤ 900) := fun n hn => by
                rcases List.mem_append.1 hn with q | q
                · exact HXS.out n q
                · rw [List.mem_singleton.1 q]; exact hm9
              have HLN2 : Hid (25 + 6 * F + 5 * (xs ++ [j]).length ≤ (t ++ ⟨#[13, 10]⟩ : ByteArray).size) := by
                rw [Hid, HT1.out, List.length_append]
                have := HLN.out
                show _ + 5 * (xs.length + 1) ≤ _
                omega
              clear HTS HTD HS1 HS1s HCN HXS HLN HSD
              generalize t ++ ⟨#[13, 10]⟩ = t2 at *
              go_wp2
              go_roundw
              case rel => exact ⟨xs ++ [j], t2, by (rw [← HCN2.out]; first | done | go_num), rfl, by have := HT1.out; have := HMZ.out; omega, HLN2, HX2, HT2, HWR⟩
              case measure => have := HT1.out; have := HMZ.out; simp only; omega
        · have hleI : ¬ ((s.size + 7 : Nat) : Int) ≤ (Z : Int) := by omega
          obtain ⟨S2, hS2⟩ : ∃ S2 : ByteArray, S2 = s ++ ⟨#[13, 10]⟩ := ⟨_, rfl⟩
          have hcat : ∀ W : World, (Op.stringOp .add s ⟨#[13, 10]⟩).run Tryz.prog W = .ok (.string S2) W := fun W => by rw [hS2]; exact sum_run W s ⟨#[13, 10]⟩ (by show s.size + 2 ≤ _; omega)
          have hS2d : S2.data.toList = limB F xs ++ [13, 10] := by rw [hS2, ByteArray.data_append, Array.toList_append, HSD.out]
          have hS2s : S2.size = s.size + 2 := by rw [hS2, ByteArray.size_append]; rfl
          have hbl : (limB F xs).length = s.size := by rw [← HSD.out]; rfl
          have BW : Below w.heap.size w wr := by rw [HWR.out]; exact B1
          obtain ⟨v2, w2, r2, S3, B2, hlt2⟩ := conv_src wr S2 (by rw [hS2s]; unfold maxLen; omega)
          have C2 := BW.trans (B2.mono BW.size)
          rw [hS2d] at S3
          have hlen2 : (limB F xs ++ [13, 10]).length = S2.size := by rw [List.length_append, hbl, hS2s]; rfl
          obtain ⟨a1, c1, rfl, q1, q2, q3⟩ := id S3
          have hcv : (convert 9 22 (.string S2)).run Tryz.prog wr = .ok (.slice a1 S2.size c1) w2 := by rw [← hlen2]; exact r2
          have HRQ : Hid (Calls Tryz.prog 11 #[.slice a1 S2.size c1] w2 (ReqR w2 (reqQ (limB F xs ++ [13, 10])))) := by
            have k := hreq_any (limB F xs ++ [13, 10]) wr.heap.size c1 a1 w2 S3 (fun _ => hlt2) (HL.out.below C2).max (by rw [hlen2, hS2s]; omega)
            rw [hlen2] at k
            exact k
          by_cases hok : (limB F xs).length + 2 ≤ 2048 ∧ F + 1 + xs.length ≤ 40
          · have hq := reqQ_lim_ok F xs HXS.out hok.1 hok.2
            rw [hbl, ← hS2s] at hq
            have hfl : (limF F xs).length = cn := by rw [limF_len, HCN.out]
            rw [hq] at HRQ
            unfold ReqR rdV at HRQ
            simp only at HRQ
            rw [hfl] at HRQ
            have hc40 : ¬ (40 : Int) < (cn : Int) := by have := HCN.out; omega
            have hs48 : ¬ (2048 : Int) < (S2.size : Int) := by omega
            clear r2 S3 B2 q1 q2 q3 hS2 hS2d hS2s hbl hlen2 HSD hok hq hfl HXS HLN HCN hlt2
            go_wp2_with fail
            refine HRQ.out.mono ?_
            rintro e w3 ⟨fa, ba, fc, bc, rfl, _, _, B3⟩
            have C3 := C2.trans (B3.mono C2.size)
            have C4 := C3.alloc C3.size (.cells #[.string ⟨#[71, 69, 84]⟩, .string ⟨#[47]⟩, .int .i64 1, .slice fa cn fc, .slice ba 0 bc] 26)
            have hr4 := tblk_new w3 (.cells #[.string ⟨#[71, 69, 84]⟩, .string ⟨#[47]⟩, .int .i64 1, .slice fa cn fc, .slice ba 0 bc] 26)
            have e3 := tblk_cell (i := 3) hr4 rfl
            clear B3 C3 C2 HRQ hr4
            go_wp2
            go_ret
            exact ⟨rfl, C4⟩
          · have hq := reqQ_lim_no F xs HXS.out hok
            rw [hq] at HRQ
            unfold ReqR rdV rdNo at HRQ
            simp only at HRQ
            have hor : (40 : Int) < (cn : Int) ∨ (¬ (40 : Int) < (cn : Int) ∧ (2048 : Int) < (S2.size : Int)) := by
              have := HCN.out
              rw [hbl] at hok
              rw [hS2s]
              omega
            clear r2 S3 B2 q1 q2 q3 hS2 hS2d hS2s hbl hlen2 HSD hok hq HXS HLN HCN hlt2
            rcases hor with h40 | ⟨h40, h48⟩
            · go_wp2_with fail
              refine HRQ.out.mono ?_
              rintro e w3 ⟨fa, ba, fc, bc, rfl, _, _, B3⟩
              have C3 := C2.trans (B3.mono C2.size)
              have C4 := C3.alloc C3.size (.cells #[.string ⟨#[]⟩, .string ⟨#[]⟩, .int .i64 0, .slice fa 0 fc, .slice ba 0 bc] 26)
              clear B3 C3 C2 HRQ
              go_wp2
              go_ret
              exact ⟨rfl, C4⟩
            · go_wp2_with fail
              refine HRQ.out.mono ?_
              rintro e w3 ⟨fa, ba, fc, bc, rfl, _, _, B3⟩
              have C3 := C2.trans (B3.mono C2.size)
              have C4 := C3.alloc C3.size (.cells #[.string ⟨#[]⟩, .string ⟨#[]⟩, .int .i64 0, .slice fa 0 fc, .slice ba 0 bc] 26)
              clear B3 C3 C2 HRQ
              go_wp2
              go_ret
              exact ⟨rfl, C4⟩
end Go.Proofs.YthbjdbookiejeabGreatDoor

/- Whatever the two numbers, HttpLimits answers true: a head of as many bytes as may be, and of as many fields, is read; one of more is refused with 431; no condition. -/
namespace Go.Proofs.YthbjdbookiejeabGreatDoor.httpLimits
open Go.ChangeShapes Go.WideShapes Go.ChangeAt Go.RowKit
open Go.ChangeMaps (open_string shut_string)
set_option linter.unusedVariables false

theorem own : ownKnob Tryz.prog.godebug = none := by kernel_rfl
theorem maxL_of {W : World} (hsh : W.ShapedOpen Tryz.prog) : MaxL W :=
  cell_of_shapedOpen_int (P := Tryz.prog) (g := 0) (t := 3) (zero := #[.int .i64 0]) hsh (of_decide_eq_true (by kernel_rfl)) (by kernel_rfl) rfl (by kernel_rfl) (by kernel_rfl) Tryz.underlying3
noncomputable def laidWorld (os : Os) : World := World.laidAll Tryz.prog os Rows.httpLimitsRow.laid
theorem laid_met (os : Os) : laidMetH Tryz.prog Rows.httpLimitsRow.laid ((laidWorld os).forCall (fun _ _ => 0) ⟨#[], #[.int .i64 0, .int .i64 0], []⟩).memory := by
  rw [MakeChecks.laidMetH_plain _ _ _ (by kernel_rfl)]
  exact laidMet_laidAll _ (by kernel_rfl) (by kernel_rfl)
set_option maxRecDepth 100000 in
theorem lifted (os : Os) (started : os.Started) (H : Type) (enc : TypeId × Value → H) (F : Stop.Interp) :
    ReturnsInHanded {} Tryz.checked os 4 .any ((OpenSpec.ofChange Rows.httpLimitsSpec).preRow enc Tryz.prog Tryz.f4 Rows.httpLimitsRow.domain false Rows.httpLimitsRow.laid) (((OpenSpec.ofChange Rows.httpLimitsSpec).at F).post enc Tryz.prog Tryz.f4 false true false false) := by
  obtain ⟨places, hx⟩ := (⟨[], by kernel_rfl⟩ : ∃ places, DataW.whole enc Tryz.prog ((laidWorld os).forCall (fun _ _ => 0) ⟨#[], #[.int .i64 0, .int .i64 0], []⟩).memory Tryz.f4.params.toList Rows.httpLimitsSpec.vars false (#[.int .i64 0, .int .i64 0] : Array Value).toList 8 = some ([.lit (.int .i64 0), .lit (.int .i64 0)], [], places))
  refine returnsInHanded_of_row (C := Tryz.checked) (s := OpenSpec.ofChange Rows.httpLimitsSpec) own started (by kernel_rfl) Tryz.func4
    (witness_row_atRef (enc := enc) (C := Tryz.checked) false (laidWorld os) #[.int .i64 0, .int .i64 0] rfl (by kernel_rfl) (by kernel_rfl) (by kernel_rfl)
      (OpenSpec.preRow_of_cond 8 hx (by kernel_rfl) (fun k hk => by cases hk) (by kernel_rfl) (laid_met os))) ?_
  intro W base args ds gs before hval0 hW _ hcond hsz hlaid hsh _
  have hM := maxL_of hsh
  clear hsh
  have hval : ∀ (j : Nat) t v, Tryz.f4.params[j]? = some t → args[j]? = some v → Value.okWide Tryz.prog W .any base t v := hval0
  have hW' := hW
  obtain ⟨p, q, hA0, hV, rfl, hfz, hnd⟩ := hW
  have hA : DataW.TrodAll enc Tryz.prog W 0 (fun _ => true) true Tryz.f4.params.toList args.toList ds p := hA0
  rw [Tryz.params4] at hA hval
  obtain ⟨v0, vs0, d0, ds0, p0, q0, hargs, rfl, rfl, h0, r0⟩ := trodAll_cons hA
  obtain ⟨v1, vs1, d1, ds1, p1, q1, rfl, rfl, rfl, h1, r1⟩ := trodAll_cons r0
  obtain ⟨rfl, rfl, rfl⟩ := trodAll_nil r1
  obtain rfl : args = #[v0, v1] := by cases args; simp_all
  obtain ⟨rfl, rfl⟩ := trodVars_none hV
  obtain ⟨a0, rfl, rfl, rfl, w0⟩ := open_int Tryz.underlying3 (hval 0 3 v0 rfl rfl) h0
  obtain ⟨a1, rfl, rfl, rfl, w1⟩ := open_int Tryz.underlying3 (hval 1 3 v1 rfl rfl) h1
  clear hA0 hval0
  have hP := pow_of (l := Rows.httpLimitsRow.laid) (by kernel_rfl) hlaid
  refine (limits8_walk a0 a1 W ⟨hM, hP⟩).mono fun e W' ⟨he, bel⟩ => ?_
  subst he
  exact ⟨_, rfl, _, _, _, [], _, [], hW', trodAll_mk1 (shut_bool Tryz.underlying4 _), (trodAll_cons_mk (shut_int Tryz.underlying3 w0) (trodAll_cons_mk (shut_int Tryz.underlying3 w1) trodAll_mk0)), rfl, bel.frame _, fun h => by cases h⟩

theorem over : Rows.HttpLimitsSaid :=
  OpenClaim.holds_of_cond 4 Tryz.f4 rfl rfl rfl rfl rfl rfl rfl ⟨rfl, rfl, rfl, rfl, rfl⟩ rfl rfl rfl rfl rfl (by kernel_rfl) Tryz.func4 (by kernel_rfl)
    (of_decide_eq_true (by kernel_rfl)) (by unfold Func.isWrapper; first | (rw [if_pos (by decide +kernel)]; kernel_rfl) | (rw [if_neg (by decide +kernel)]; exact ⟨rfl, rfl⟩))
    (fun os started H enc _ F => by rw [OpenClaim.pre_eq_preRow]; exact lifted os started H enc F)

end Go.Proofs.YthbjdbookiejeabGreatDoor.httpLimits
namespace Go.Proofs.YthbjdbookiejeabGreatDoor
/-- The statement: the tied card. -/
theorem httpLimits_holds : Rows.HttpLimitsCardSaid :=
  Claim7.holds_tied_plain_at .later [] _ _ _ _
    httpLimits.over (fun _ h => by cases h) (by kernel_rfl) (fun _ h => by cases h) httpLimits_row_tie rfl ⟨rfl, rfl⟩ (by kernel_rfl) rfl
    (fun f fn hf hfn => by
      obtain rfl : f = 4 := Option.some.inj ((show Tryz.prog.funcNamed "tollbar/tollbarlaw08.HttpLimits" = some 4 by kernel_rfl).symm.trans hf) |>.symm
      obtain rfl : fn = Tryz.f4 := (Option.some.inj (Tryz.func4.symm.trans hfn)).symm
      exact ⟨by kernel_rfl, fun j t ht => by
        rw [Tryz.params4] at ht
        have hm : t ∈ [3, 3] := by simpa using Array.mem_of_getElem? ht
        have hall : ([3, 3].all fun u => !Tryz.prog.wantsStandIn u) = true := by kernel_rfl
        exact (show Tryz.prog.wantsStandIn t = false by simpa using List.all_eq_true.1 hall t hm)⟩)
    (by kernel_rfl)
#print axioms httpLimits_holds
end Go.Proofs.YthbjdbookiejeabGreatDoor
