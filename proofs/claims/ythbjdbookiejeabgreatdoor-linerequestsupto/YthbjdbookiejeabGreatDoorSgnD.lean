/- The reference's loops; then Token, Value and Target themselves. -/
import Derived.Test.YthbjdbookiejeabGreatDoorSgnC
namespace Go.Proofs.YthbjdbookiejeabGreatDoor
open Go.RowKit
set_option linter.unusedVariables false

set_option maxHeartbeats 1000000 in
theorem rToken_any (s : ByteArray) (w : World) (hs : s.size ≤ maxLen) :
    Calls Tryz.prog 59 #[.string s] w fun e w' => e = .returned (.bool (allB tokP s.data.toList && decide (0 < s.size))) ∧ w' = w := by
  unfold maxLen at hs
  go_enter Tryz.func59, Tryz.ntmps59
  go_wp2
  go_loop [3] (fun i => ∃ k : Nat, k ≤ s.size ∧ i = .int .i64 k ∧ Hid (allB tokP (s.data.toList.take k) = true)) (fun i => s.size - (intOf i).toNat)
  case atStart => exact ⟨0, Nat.zero_le _, rfl, rfl⟩
  case round =>
    obtain ⟨k, hk, rfl, hA⟩ := hrel
    by_cases hlt : k < s.size
    · have bd := byte_bd s[k]
      go_wp2_with fail
      refine (tokenByte_any _ _ bd.1 bd.2).mono ?_
      rintro e w' ⟨rfl, rfl⟩
      cases hpc : tokP (s[k].toNat : Int)
      · have HC : Hid (tokP (s[k].toNat : Int) = false) := hpc
        clear hpc
        go_wp2
        go_ret
        exact ⟨ret_b (by rw [allB_false s k hlt HC.out]; rfl), rfl⟩
      · have HC : Hid (tokP (s[k].toNat : Int) = true) := hpc
        clear hpc
        go_wp2
        go_round
        case rel => exact ⟨k + 1, by omega, by go_num, allB_snoc s k hlt hA.out HC.out⟩
        case measure => simp [intOf]; omega
    · go_wp2
      go_ret
      have hk' : k = s.size := by omega
      subst hk'
      exact ⟨ret_b (by have h := hA.out; rw [List.take_of_length_le (by simp)] at h; rw [h]; simp), rfl⟩


end Go.Proofs.YthbjdbookiejeabGreatDoor
