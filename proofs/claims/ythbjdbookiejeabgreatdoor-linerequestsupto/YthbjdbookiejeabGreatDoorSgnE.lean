/- The reference's Digit and Value. -/
import Derived.Test.YthbjdbookiejeabGreatDoorSgnB
namespace Go.Proofs.YthbjdbookiejeabGreatDoor
open Go.RowKit
set_option linter.unusedVariables false

/-- A byte, as a number: 256 cases. -/
theorem byte_all {P : Int → Prop} (h : ∀ n : Nat, n < 256 → P (n : Int)) (c : Int) (h0 : 0 ≤ c) (h1 : c < 256) : P c := by
  obtain ⟨n, rfl⟩ := Int.eq_ofNat_of_zero_le h0
  exact h n (by omega)
theorem val_iff (c : Int) (h0 : 0 ≤ c) (h1 : c < 256) : valP c = !((decide (c < 32) && !decide (c = 9)) || decide (c = 127)) :=
  byte_all (P := fun c => valP c = !((decide (c < 32) && !decide (c = 9)) || decide (c = 127))) (by decide +kernel) c h0 h1

theorem rdig_any (c : Int) (w : World) : Calls Tryz.prog 93 #[.int .u8 c] w fun e w' => e = .returned (.bool (spanP 48 57 c)) ∧ w' = w := by
  unfold spanP
  by_cases a : 48 ≤ c
  · by_cases b : c ≤ 57
    · go_enter Tryz.func93, Tryz.ntmps93
      go_wp2
      go_ret
      exact ⟨ret_b (by simp [a, b]), rfl⟩
    · go_enter Tryz.func93, Tryz.ntmps93
      go_wp2
      go_ret
      exact ⟨ret_b (by simp [b]), rfl⟩
  · go_enter Tryz.func93, Tryz.ntmps93
    go_wp2
    go_ret
    exact ⟨ret_b (by simp; omega), rfl⟩

set_option maxHeartbeats 1000000 in
theorem rValue_any (s : ByteArray) (w : World) (hs : s.size ≤ maxLen) :
    Calls Tryz.prog 18 #[.string s] w fun e w' => e = .returned (.bool (allB valP s.data.toList)) ∧ w' = w := by
  unfold maxLen at hs
  go_enter Tryz.func18, Tryz.ntmps18
  go_wp2
  go_loop [3] (fun i => ∃ k : Nat, k ≤ s.size ∧ i = .int .i64 k ∧ Hid (allB valP (s.data.toList.take k) = true)) (fun i => s.size - (intOf i).toNat)
  case atStart => exact ⟨0, Nat.zero_le _, rfl, rfl⟩
  case round =>
    obtain ⟨k, hk, rfl, hA⟩ := hrel
    by_cases hlt : k < s.size
    · have bd := byte_bd s[k]
      have hv : Hid (valP (s[k].toNat : Int) = _) := val_iff _ bd.1 bd.2
      by_cases a : (s[k].toNat : Int) < 32
      · by_cases b : (s[k].toNat : Int) = 9
        · have HC : Hid (valP (s[k].toNat : Int) = true) := by rw [Hid, b]; decide +kernel
          have b1 : ((s[k].toNat : Int) != 9) = false := by simp [b]
          have b2 : ((s[k].toNat : Int) == 127) = false := by simp [b]
          clear b hv
          go_wp2
          go_round
          case rel => exact ⟨k + 1, by omega, by go_num, allB_snoc s k hlt hA.out HC.out⟩
          case measure => simp [intOf]; omega
        · have HC : Hid (valP (s[k].toNat : Int) = false) := by rw [Hid, hv.out]; simp [a, b]
          have b1 : ((s[k].toNat : Int) != 9) = true := by simp [b]
          clear b hv
          go_wp2
          go_ret
          exact ⟨ret_b (allB_false s k hlt HC.out).symm, rfl⟩
      · by_cases b : (s[k].toNat : Int) = 127
        · have HC : Hid (valP (s[k].toNat : Int) = false) := by rw [Hid, hv.out]; simp [b]
          have b2 : ((s[k].toNat : Int) == 127) = true := by simp [b]
          clear b hv
          go_wp2
          go_ret
          exact ⟨ret_b (allB_false s k hlt HC.out).symm, rfl⟩
        · have HC : Hid (valP (s[k].toNat : Int) = true) := by rw [Hid, hv.out]; simp [a, b]
          have b2 : ((s[k].toNat : Int) == 127) = false := by simp [b]
          clear b hv
          go_wp2
          go_round
          case rel => exact ⟨k + 1, by omega, by go_num, allB_snoc s k hlt hA.out HC.out⟩
          case measure => simp [intOf]; omega
    · go_wp2
      go_ret
      have hk' : k = s.size := by omega
      subst hk'
      exact ⟨ret_b (by have h := hA.out; rw [List.take_of_length_le (by simp)] at h; exact h.symm), rfl⟩

end Go.Proofs.YthbjdbookiejeabGreatDoor
