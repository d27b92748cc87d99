/- A text without what it begins with. -/
import Derived.Test.YtjfcoihfjjcooaaPrfA
namespace Go.Proofs.Ytjfcoihfjjcooaa
open Go.RowKit
set_option linter.unusedVariables false

theorem cutprefix_sl (s p : ByteArray) (w : World) : Calls Try.prog 25 #[.string s, .string p] w fun e w' => e = .returned (.tuple #[.string (cutP s p), .bool (hasP s p)]) ∧ w' = w := by
  have H : Hid (∀ W, Calls Try.prog 27 #[.string s, .string p] W fun e w' => e = .returned (.bool (hasP s p)) ∧ w' = W) := fun W => hasprefix_any s p W
  unfold cutP
  cases h : hasP s p
  · rw [h] at H
    clear h
    go_enter Try.func25, Try.ntmps25
    go_wp2_with fail
    refine (H.out _).mono ?_
    rintro e w1 ⟨rfl, rfl⟩
    go_wp2
    go_ret2
    exact ⟨rfl, rfl⟩
  · rw [h] at H
    have hl : p.size ≤ s.size := by
      unfold hasP at h
      rw [Bool.and_eq_true] at h
      exact of_decide_eq_true h.1
    clear h
    go_enter Try.func25, Try.ntmps25
    go_wp2_with fail
    refine (H.out _).mono ?_
    rintro e w1 ⟨rfl, rfl⟩
    go_wp2
    go_ret2
    exact ⟨rfl, rfl⟩

theorem cutprefix_any (s p : ByteArray) (w : World) : Calls Try.prog 18 #[.string s, .string p] w fun e w' => e = .returned (.tuple #[.string (cutP s p), .bool (hasP s p)]) ∧ w' = w := by
  go_enter Try.func18, Try.ntmps18
  go_wp2_with fail
  refine (cutprefix_sl s p _).mono ?_
  rintro e w1 ⟨rfl, rfl⟩
  go_wp2
  go_ret2
  exact ⟨rfl, rfl⟩

end Go.Proofs.Ytjfcoihfjjcooaa
