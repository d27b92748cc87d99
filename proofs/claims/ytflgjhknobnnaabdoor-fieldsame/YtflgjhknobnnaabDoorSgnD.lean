/- The reference's loops; then Token, Value and Target themselves. -/
import Derived.Test.YtflgjhknobnnaabDoorSgnC
namespace Go.Proofs.YtflgjhknobnnaabDoor
open Go.RowKit
set_option linter.unusedVariables false

set_option maxHeartbeats 1000000 in
theorem rToken_any (s : ByteArray) (w : World) (hs : s.size ≤ maxLen) :
    Calls Tryd.prog 49 #[.string s] w fun e w' => e = .returned (.bool (allB tokP s.data.toList && decide (0 < s.size))) ∧ w' = w := by
  unfold maxLen at hs
  go_enter Tryd.func49, Tryd.ntmps49
  go_wp2
  go_loop [3] (fun i => ∃ k : Nat, k ≤ s.size ∧ i = .int .i64 k ∧ Hid (allB tokP (s.data.toList.take k) = true)) (fun i => s.size - (intOf i).toNat)
  case atStart => exact ⟨0, Nat.zero_le _, rfl, rfl⟩
  case round =>
    obtain ⟨k, hk, rfl, hA⟩ := hrel
    by_cases hlt : k < s.size
    · have bd := byte_bd s[k]
      go_wp2_with fail
      refine (tokenByte_any _ _ bd.1 bd.2).mono ?_
      rintro e w' ⟨rfl, rfl⟩
      cases hpc : tokP (s[k].toNat : Int)
      · have HC : Hid (tokP (s[k].toNat : Int) = false) := hpc
        clear hpc
        go_wp2
        go_ret
        exact ⟨ret_b (by rw [allB_false s k hlt HC.out]; rfl), rfl⟩
      · have HC : Hid (tokP (s[k].toNat : Int) = true) := hpc
        clear hpc
        go_wp2
        go_round
        case rel => exact ⟨k + 1, by omega, by go_num, allB_snoc s k hlt hA.out HC.out⟩
        case measure => simp [intOf]; omega
    · go_wp2
      go_ret
      have hk' : k = s.size := by omega
      subst hk'
      exact ⟨ret_b (by have h := hA.out; rw [List.take_of_length_le (by simp)] at h; rw [h]; simp), rfl⟩

set_option maxHeartbeats 1000000 in
theorem rValue_any (s : ByteArray) (w : World) (hs : s.size ≤ maxLen) :
    Calls Tryd.prog 50 #[.string s] w fun e w' => e = .returned (.bool (allB valP s.data.toList)) ∧ w' = w := by
  unfold maxLen at hs
  go_enter Tryd.func50, Tryd.ntmps50
  go_wp2
  go_loop [3] (fun i => ∃ k : Nat, k ≤ s.size ∧ i = .int .i64 k ∧ Hid (allB valP (s.data.toList.take k) = true)) (fun i => s.size - (intOf i).toNat)
  case atStart => exact ⟨0, Nat.zero_le _, rfl, rfl⟩
  case round =>
    obtain ⟨k, hk, rfl, hA⟩ := hrel
    by_cases hlt : k < s.size
    · have bd := byte_bd s[k]
      have hv : Hid (valP (s[k].toNat : Int) = _) := val_iff _ bd.1 bd.2
      by_cases a : (s[k].toNat : Int) < 32
      · by_cases b : (s[k].toNat : Int) = 9
        · have HC : Hid (valP (s[k].toNat : Int) = true) := by rw [Hid, b]; decide +kernel
          have b1 : ((s[k].toNat : Int) != 9) = false := by simp [b]
          have b2 : ((s[k].toNat : Int) == 127) = false := by simp [b]
          clear b hv
          go_wp2
          go_round
          case rel => exact ⟨k + 1, by omega, by go_num, allB_snoc s k hlt hA.out HC.out⟩
          case measure => simp [intOf]; omega
        · have HC : Hid (valP (s[k].toNat : Int) = false) := by rw [Hid, hv.out]; simp [a, b]
          have b1 : ((s[k].toNat : Int) != 9) = true := by simp [b]
          clear b hv
          go_wp2
          go_ret
          exact ⟨ret_b (allB_false s k hlt HC.out).symm, rfl⟩
      · by_cases b : (s[k].toNat : Int) = 127
        · have HC : Hid (valP (s[k].toNat : Int) = false) := by rw [Hid, hv.out]; simp [b]
          have b2 : ((s[k].toNat : Int) == 127) = true := by simp [b]
          clear b hv
          go_wp2
          go_ret
          exact ⟨ret_b (allB_false s k hlt HC.out).symm, rfl⟩
        · have HC : Hid (valP (s[k].toNat : Int) = true) := by rw [Hid, hv.out]; simp [a, b]
          have b2 : ((s[k].toNat : Int) == 127) = false := by simp [b]
          clear b hv
          go_wp2
          go_round
          case rel => exact ⟨k + 1, by omega, by go_num, allB_snoc s k hlt hA.out HC.out⟩
          case measure => simp [intOf]; omega
    · go_wp2
      go_ret
      have hk' : k = s.size := by omega
      subst hk'
      exact ⟨ret_b (by have h := hA.out; rw [List.take_of_length_le (by simp)] at h; exact h.symm), rfl⟩

end Go.Proofs.YtflgjhknobnnaabDoor
