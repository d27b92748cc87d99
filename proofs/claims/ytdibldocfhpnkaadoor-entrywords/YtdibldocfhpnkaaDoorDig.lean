/- What a digit counts. -/
import Derived.Test.YtdibldocfhpnkaaDoorNumM
import Derived.WalkSpells
import Derived.WalkLawsBesides
namespace Go.Proofs.YtdibldocfhpnkaaDoor
open Go.RowKit
set_option linter.unusedVariables false

theorem ret_i {k : IntKind} {a b : Int} (h : a = b) : Ending.returned (.int k a) = .returned (.int k b) := by rw [h]

set_option maxHeartbeats 1000000 in
theorem digit_any (c : Int) (w : World) (h0 : 0 ≤ c) (h1 : c < 256) : Calls Tryd.prog 70 #[.int .u8 c] w fun e w' => e = .returned (.int .i64 (dgI c)) ∧ w' = w := by
  by_cases a : 48 ≤ c
  · by_cases b : c ≤ 57
    · have E : Hid (c - 48 = dgI c) := by rw [Hid, dgI, if_pos ⟨a, b⟩]
      go_enter Tryd.func70, Tryd.ntmps70
      go_wp2
      go_ret
      exact ⟨ret_i (by rw [← E.out]), rfl⟩
    · by_cases d : 97 ≤ c
      · by_cases f : c ≤ 102
        · have E : Hid (c - 97 + 10 = dgI c) := by rw [Hid, dgI, if_neg (by omega), if_pos ⟨d, f⟩]; omega
          go_enter Tryd.func70, Tryd.ntmps70
          go_wp2
          go_ret
          exact ⟨ret_i (by rw [← E.out]), rfl⟩
        · have E : Hid (16 = dgI c) := by rw [Hid, dgI, if_neg (by omega), if_neg (by omega), if_neg (by omega)]
          have g : 65 ≤ c := by omega
          have g' : ¬ c ≤ 70 := by omega
          go_enter Tryd.func70, Tryd.ntmps70
          go_wp2
          go_ret
          exact ⟨ret_i E.out, rfl⟩
      · by_cases g : 65 ≤ c
        · by_cases g' : c ≤ 70
          · have E : Hid (c - 65 + 10 = dgI c) := by rw [Hid, dgI, if_neg (by omega), if_neg (by omega), if_pos ⟨g, g'⟩]; omega
            go_enter Tryd.func70, Tryd.ntmps70
            go_wp2
            go_ret
            exact ⟨ret_i (by rw [← E.out]), rfl⟩
          · have E : Hid (16 = dgI c) := by rw [Hid, dgI, if_neg (by omega), if_neg (by omega), if_neg (by omega)]
            go_enter Tryd.func70, Tryd.ntmps70
            go_wp2
            go_ret
            exact ⟨ret_i E.out, rfl⟩
        · have E : Hid (16 = dgI c) := by rw [Hid, dgI, if_neg (by omega), if_neg (by omega), if_neg (by omega)]
          go_enter Tryd.func70, Tryd.ntmps70
          go_wp2
          go_ret
          exact ⟨ret_i E.out, rfl⟩
  · have E : Hid (16 = dgI c) := by rw [Hid, dgI, if_neg (by omega), if_neg (by omega), if_neg (by omega)]
    have d : ¬ 97 ≤ c := by omega
    have g : ¬ 65 ≤ c := by omega
    go_enter Tryd.func70, Tryd.ntmps70
    go_wp2
    go_ret
    exact ⟨ret_i E.out, rfl⟩

end Go.Proofs.YtdibldocfhpnkaaDoor
