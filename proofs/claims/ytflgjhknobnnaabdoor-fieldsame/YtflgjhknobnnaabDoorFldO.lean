/- The reference's fields: which are right; a line read. -/
import Derived.Test.YtflgjhknobnnaabDoorFldA
import Derived.Test.YtflgjhknobnnaabDoorSgnD
import Derived.Test.YtflgjhknobnnaabDoorRefA
import Derived.Deep.QuietTactic
import Derived.BigQuiet
import Derived.Deep.RegionHeld3
namespace Go.Proofs.YtflgjhknobnnaabDoor
open Go.RowKit
set_option linter.unusedVariables false

set_option maxRecDepth 100000 in
set_option maxHeartbeats 4000000 in
theorem r4one_any (n v : ByteArray) (w : World) (hn : n.size ≤ 140737488355328) (hv : v.size ≤ 140737488355328) : Calls Tryd.prog 35 #[.agg #[.string n, .string v]] w fun e w' => e = .returned (.bool (okF n v)) ∧ Below w.heap.size w w' := by
  unfold okF okName okVal eqT
  have HT : Hid (∀ w, Calls Tryd.prog 49 #[.string n] w fun e w' => e = .returned (.bool (allB tokP n.data.toList && decide (0 < n.size))) ∧ w' = w) := fun w => rToken_any n w (by unfold maxLen; omega)
  have HV : Hid (∀ w, Calls Tryd.prog 50 #[.string v] w fun e w' => e = .returned (.bool (allB valP v.data.toList)) ∧ w' = w) := fun w => rValue_any v w (by unfold maxLen; omega)
  have HR : Hid (∀ w, Calls Tryd.prog 43 #[.string v] w fun e w' => e = .returned (.string (trimT v)) ∧ w' = w) := fun w => rtrim_any v w hv
  generalize (allB tokP n.data.toList && decide (0 < n.size)) = t at *
  generalize allB valP v.data.toList = u at *
  generalize trimT v = T at *
  clear hn hv
  cases t
  · rw [Bool.and_false, Bool.false_and]
    clear HV HR
    go_enter Tryd.func35, Tryd.ntmps35
    go_wp2
    go_quiet (first | (go_at_call 49; exact Calls.quiet_of_same (HT.out _)) | (go_at_call 50; exact Calls.quiet_of_same (HV.out _)) | (go_at_call 43; exact Calls.quiet_of_same (HR.out _)))
    go_wp2
    go_ret
    exact ⟨by rfl, ((Below.refl _ _).alloc (Nat.le_refl _) _).trans (below_drewN _ _ _)⟩
  · rw [Bool.and_true]
    by_cases h1 : n.size ≤ 100
    · have k1 : (n.size : Int) ≤ 100 := by omega
      rw [decide_eq_true h1, Bool.true_and]
      cases u
      · rw [Bool.and_false, Bool.false_and]
        clear HR h1
        go_enter Tryd.func35, Tryd.ntmps35
        go_wp2
        go_quiet (first | (go_at_call 49; exact Calls.quiet_of_same (HT.out _)) | (go_at_call 50; exact Calls.quiet_of_same (HV.out _)) | (go_at_call 43; exact Calls.quiet_of_same (HR.out _)))
        go_wp2
        go_ret
        exact ⟨by rfl, ((Below.refl _ _).alloc (Nat.le_refl _) _).trans (below_drewN _ _ _)⟩
      · rw [Bool.and_true]
        by_cases he : T.toList == v.toList
        · rw [he, Bool.and_true]
          by_cases h2 : v.size ≤ 1000
          · have k2 : (v.size : Int) ≤ 1000 := by omega
            rw [decide_eq_true h2]
            clear h1 h2
            go_enter Tryd.func35, Tryd.ntmps35
            go_wp2
            go_quiet (first | (go_at_call 49; exact Calls.quiet_of_same (HT.out _)) | (go_at_call 50; exact Calls.quiet_of_same (HV.out _)) | (go_at_call 43; exact Calls.quiet_of_same (HR.out _)))
            go_wp2
            go_ret
            exact ⟨by rfl, ((Below.refl _ _).alloc (Nat.le_refl _) _).trans (below_drewN _ _ _)⟩
          · have k2 : decide ((v.size : Int) ≤ 1000) = false := decide_eq_false (by omega)
            rw [decide_eq_false h2]
            clear h1 h2
            go_enter Tryd.func35, Tryd.ntmps35
            go_wp2
            go_quiet (first | (go_at_call 49; exact Calls.quiet_of_same (HT.out _)) | (go_at_call 50; exact Calls.quiet_of_same (HV.out _)) | (go_at_call 43; exact Calls.quiet_of_same (HR.out _)))
            go_wp2
            go_ret
            exact ⟨by rfl, ((Below.refl _ _).alloc (Nat.le_refl _) _).trans (below_drewN _ _ _)⟩
        · have he' : (T.toList == v.toList) = false := by simpa using he
          rw [he', Bool.and_false]
          clear h1 he
          go_enter Tryd.func35, Tryd.ntmps35
          go_wp2
          go_quiet (first | (go_at_call 49; exact Calls.quiet_of_same (HT.out _)) | (go_at_call 50; exact Calls.quiet_of_same (HV.out _)) | (go_at_call 43; exact Calls.quiet_of_same (HR.out _)))
          go_wp2
          go_ret
          exact ⟨by rfl, ((Below.refl _ _).alloc (Nat.le_refl _) _).trans (below_drewN _ _ _)⟩
    · have k1 : decide ((n.size : Int) ≤ 100) = false := decide_eq_false (by omega)
      rw [decide_eq_false h1, Bool.false_and]
      clear HV HR h1
      go_enter Tryd.func35, Tryd.ntmps35
      go_wp2
      go_quiet (first | (go_at_call 49; exact Calls.quiet_of_same (HT.out _)) | (go_at_call 50; exact Calls.quiet_of_same (HV.out _)) | (go_at_call 43; exact Calls.quiet_of_same (HR.out _)))
      go_wp2
      go_ret
      exact ⟨by rfl, ((Below.refl _ _).alloc (Nat.le_refl _) _).trans (below_drewN _ _ _)⟩

end Go.Proofs.YtflgjhknobnnaabDoor
