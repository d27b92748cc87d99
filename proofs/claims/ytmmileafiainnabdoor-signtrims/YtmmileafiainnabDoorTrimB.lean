/- SignTrims, walked: blanks put around a text vanish; within it they stay. -/
import Derived.Test.YtmmileafiainnabDoorTrimA
import Derived.Test.YtmmileafiainnabDoorFoldA
namespace Go.Proofs.YtmmileafiainnabDoor
open Go.RowKit
set_option linter.unusedVariables false

theorem catT (W : World) (a b : ByteArray) (h : a.size + b.size ≤ 281474976710656) : (Op.stringOp .add a b).run Tryd.prog W = .ok (.string (a ++ b)) W :=
  run_string_add_sum W a b (by omega)

set_option maxRecDepth 100000 in
set_option maxHeartbeats 4000000 in
theorem trims_walk (s : ByteArray) (ah be : Int) (w : World) (hs : s.size ≤ 140737488351232) (hM : MaxL w) :
    Calls Tryd.prog 8 #[.string s, .int .i64 ah, .int .i64 be] w fun e w' => e = .returned (.bool true) ∧ Below w.heap.size w w' := by
  obtain ⟨ka, hka, hba0⟩ := and_mask ah 7 (by decide)
  obtain ⟨kb, hkb, hbb0⟩ := and_mask be 7 (by decide)
  have hba : bits BinOp.and IntKind.i64 ah 7 = (ka : Int) := hba0
  have hbb : bits BinOp.and IntKind.i64 be 7 = (kb : Int) := hbb0
  clear hba0 hbb0
  have hts := trimT_size s
  have HI : Hid (trimT (trimT s) = trimT s) := trimT_idem s
  have HX := fun n x => @Around.trim s x n
  have HR : Hid (s.size ≤ 140737488355328) := by rw [Hid]; omega
  have HT : Hid ((trimT s).size ≤ 140737488351232) := by rw [Hid]; omega
  have hgt : ¬ (s.size : Int) < ((trimT s).size : Int) := by omega
  clear hs hts
  go_enter Tryd.func8, Tryd.ntmps8
  go_wp2_with fail
  refine (texts_any _ hM).mono ?_
  rintro e w1 ⟨rfl, B1⟩
  clear hM
  go_wp2_with fail
  refine (trim_any s _ HR.out).mono ?_
  generalize trimT s = T at *
  rintro e w2 ⟨rfl, B2⟩
  have C2 := B1.trans (B2.mono B1.size)
  clear B1 B2
  go_wp2_with fail
  refine (trim_any T _ (by have := HT.out; omega)).mono ?_
  rw [HI.out]
  rintro e w3 ⟨rfl, B3⟩
  have C3 := C2.trans (B3.mono C2.size)
  clear C2 B3 HR
  go_wp2_with fail
  clear hgt
  go_loopw [8, 9] (fun vx vk wr => ∃ (k : Nat) (x : ByteArray), k ≤ ka ∧ vx = .string x ∧ vk = .int .i64 (k : Int) ∧ Hid (Around T k x) ∧ Below w.heap.size w wr) (fun vx vk _ => ka - (intOf vk).toNat)
  case atStart => exact ⟨0, T, Nat.zero_le _, rfl, rfl, Around.refl T, C3⟩
  case round =>
    obtain ⟨k, x, hk, rfl, rfl, har, hB⟩ := hrel
    clear C3
    by_cases hlt : (k : Int) < (ka : Int)
    · obtain ⟨j, hj, hjb0⟩ := and_mask (k : Int) 1 (by decide)
      have hjb : bits BinOp.and IntKind.i64 (k : Int) 1 = (j : Int) := hjb0
      clear hjb0
      have hsz : x.size = T.size + k := by obtain ⟨_, _, _, _, _, h⟩ := har.out; exact h
      have H0 : Hid (Around T (k + 1) ((⟨#[32]⟩ : ByteArray) ++ x)) := har.out.ahead 32 (by decide)
      have H1 : Hid (Around T (k + 1) ((⟨#[9]⟩ : ByteArray) ++ x)) := har.out.ahead 9 (by decide)
      have hcv0 := conv1T wr (((⟨#[32, 9]⟩ : ByteArray)[0]'(by decide)).toNat : Int) 32 (by decide)
      have hcv1 := conv1T wr (((⟨#[32, 9]⟩ : ByteArray)[1]'(by decide)).toNat : Int) 9 (by decide)
      have hcat0 := fun W : World => catT W ⟨#[32]⟩ x (by have := HT.out; show 1 + _ ≤ _; omega)
      have hcat1 := fun W : World => catT W ⟨#[9]⟩ x (by have := HT.out; show 1 + _ ≤ _; omega)
      clear hsz
      have hj2 : j = 0 ∨ j = 1 := by omega
      rcases hj2 with rfl | rfl
      · clear hcv1 hcat1 H1
        go_wp2
        go_roundw
        case rel => exact ⟨k + 1, _, by omega, rfl, by go_num, H0, hB.alloc hB.size _⟩
        case measure => simp [intOf]; omega
      · clear hcv0 hcat0 H0
        go_wp2
        go_roundw
        case rel => exact ⟨k + 1, _, by omega, rfl, by go_num, H1, hB.alloc hB.size _⟩
        case measure => simp [intOf]; omega
    · have hke : k = ka := by omega
      go_wp2_with fail
      go_loopw [8, 10] (fun vx vk wr => ∃ (k' : Nat) (x : ByteArray), k' ≤ kb ∧ vx = .string x ∧ vk = .int .i64 (k' : Int) ∧ Hid (Around T (k + k') x) ∧ Below w.heap.size w wr) (fun vx vk _ => kb - (intOf vk).toNat)
      case atStart => exact ⟨0, x, Nat.zero_le _, rfl, rfl, har, hB⟩
      case round =>
        obtain ⟨k', y, hk', rfl, rfl, har2, hB2⟩ := hrel
        clear hB har hlt hba
        by_cases hlt2 : (k' : Int) < (kb : Int)
        · obtain ⟨j, hj, hjb0⟩ := and_mask (k' : Int) 1 (by decide)
          have hjb : bits BinOp.and IntKind.i64 (k' : Int) 1 = (j : Int) := hjb0
          clear hjb0
          have hsz : y.size = T.size + (k + k') := by obtain ⟨_, _, _, _, _, h⟩ := har2.out; exact h
          have H0 : Hid (Around T (k + k' + 1) (y ++ (⟨#[9]⟩ : ByteArray))) := har2.out.behind 9 (by decide)
          have H1 : Hid (Around T (k + k' + 1) (y ++ (⟨#[32]⟩ : ByteArray))) := har2.out.behind 32 (by decide)
          have hcv0 := conv1T wr (((⟨#[9, 32]⟩ : ByteArray)[0]'(by decide)).toNat : Int) 9 (by decide)
          have hcv1 := conv1T wr (((⟨#[9, 32]⟩ : ByteArray)[1]'(by decide)).toNat : Int) 32 (by decide)
          have hcat0 := fun W : World => catT W y ⟨#[9]⟩ (by have := HT.out; show _ + 1 ≤ _; omega)
          have hcat1 := fun W : World => catT W y ⟨#[32]⟩ (by have := HT.out; show _ + 1 ≤ _; omega)
          clear hsz
          have hj2 : j = 0 ∨ j = 1 := by omega
          rcases hj2 with rfl | rfl
          · clear hcv1 hcat1 H1
            go_wp2
            go_roundw
            case rel => exact ⟨k' + 1, _, by omega, rfl, by go_num, H0, hB2.alloc hB2.size _⟩
            case measure => simp [intOf]; omega
          · clear hcv0 hcat0 H0
            go_wp2
            go_roundw
            case rel => exact ⟨k' + 1, _, by omega, rfl, by go_num, H1, hB2.alloc hB2.size _⟩
            case measure => simp [intOf]; omega
        · have hsz : y.size = T.size + (k + k') := by obtain ⟨_, _, _, _, _, h⟩ := har2.out; exact h
          have HY : Hid (y.size ≤ 140737488355328) := by rw [Hid]; have := HT.out; omega
          have HE : Hid (trimT y = T) := HX _ y har2.out
          have hcat1 := fun W : World => catT W ⟨#[120, 32]⟩ T (by have := HT.out; show 2 + _ ≤ _; omega)
          have hcat2 := fun W : World => catT W (⟨#[120, 32]⟩ ++ T) ⟨#[9, 121]⟩ (by have := HT.out; rw [cat_size]; show 2 + _ + 2 ≤ _; omega)
          have HZ : Hid ((⟨#[120, 32]⟩ ++ T ++ ⟨#[9, 121]⟩ : ByteArray).size ≤ 140737488355328) := by rw [Hid, cat_size, cat_size]; have := HT.out; show 2 + _ + 2 ≤ _; omega
          have HQ : Hid (trimT (⟨#[120, 32]⟩ ++ T ++ ⟨#[9, 121]⟩ : ByteArray) = ⟨#[120, 32]⟩ ++ T ++ ⟨#[9, 121]⟩) := trimT_xy T
          clear hsz
          go_wp2_with fail
          refine (trim_any y _ HY.out).mono ?_
          rw [HE.out]
          rintro e w8 ⟨rfl, B8⟩
          have C8 := hB2.trans (B8.mono hB2.size)
          generalize (⟨#[120, 32]⟩ ++ T ++ ⟨#[9, 121]⟩ : ByteArray) = Z at *
          go_wp2_with fail
          refine (trim_any Z _ HZ.out).mono ?_
          rw [HQ.out]
          rintro e w9 ⟨rfl, B9⟩
          go_wp2
          go_ret
          exact ⟨rfl, C8.trans (B9.mono C8.size)⟩
end Go.Proofs.YtmmileafiainnabDoor
