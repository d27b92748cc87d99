/- Target: what it answers of every text. -/
import Derived.Test.YtdibldocfhpnkaaDoorSgnT
namespace Go.Proofs.YtdibldocfhpnkaaDoor
open Go.RowKit
set_option linter.unusedVariables false

def tgtP (s : ByteArray) : Bool := allB (spanP 33 126) s.data.toList && decide (0 < s.size)

set_option maxHeartbeats 1000000 in
theorem starget_any (s : ByteArray) (w : World) (hs : s.size ≤ maxLen) :
    Calls Tryd.prog 22 #[.string s] w fun e w' => e = .returned (.bool (tgtP s)) ∧ Below w.heap.size w w' := by
  unfold tgtP
  by_cases hz : s.size = 0
  · have he := empty_of hz
    subst he
    go_enter Tryd.func22, Tryd.ntmps22
    go_wp2
    go_ret
    exact ⟨rfl, Below.refl _ _⟩
  · have HZ : Hid (decide (0 < s.size) = true) := by rw [Hid]; simp; omega
    have hne := isEmpty_of hz
    clear hz
    rw [HZ.out]
    go_enter Tryd.func22, Tryd.ntmps22
    go_wp2_with fail
    refine (span_any 33 126 _).mono ?_
    rintro e w1 ⟨p0, q0, rfl, h0, k0, B1⟩
    have HA : Hid (Calls Tryd.prog 35 #[.string s, .func (.func 53) #[] #[.pointer (some ⟨p0, 0, none⟩), .pointer (some ⟨q0, 0, none⟩)]] w1 fun e w' => e = .returned (.bool (allB (spanP 33 126) s.data.toList)) ∧ w' = w1) := all50 s _ _ (spanP 33 126) w1 hs (fun c _ _ => span_call 33 126 c p0 q0 w1 h0 k0)
    clear h0 k0
    go_wp2_with fail
    refine HA.out.mono ?_
    rintro e w2 ⟨rfl, rfl⟩
    go_wp2
    go_ret
    exact ⟨ret_b (by simp), B1⟩

end Go.Proofs.YtdibldocfhpnkaaDoor
