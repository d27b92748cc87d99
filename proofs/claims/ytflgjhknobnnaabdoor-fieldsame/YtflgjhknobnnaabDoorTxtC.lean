/- SameTexts of two equal lists; the examples of package sign's texts. -/
import Derived.Test.YtflgjhknobnnaabDoorTxtB
import Derived.Deep.QuietTactic
import Derived.BigQuiet
namespace Go.Proofs.YtflgjhknobnnaabDoor
open Go.RowKit
set_option linter.unusedVariables false

theorem owns_at {w : World} {base : Nat} {ao : Option Addr} {cv : Nat} {xs : List ByteArray} (h : w.ownsRow base 9 1 (.slice ao xs.length cv) xs.length (xs.map Value.string)) (hp : 0 < xs.length) :
    ∃ g, ao = some ⟨g, 0, none⟩ ∧ ∀ (j : Nat) (hj : j < xs.length), w.cell? ⟨g, j, none⟩ = some (.string xs[j]) := by
  rcases h.2 with ⟨h1, h2⟩ | ⟨g, cap, cur, hv, _⟩
  · omega
  · injection hv with e1 e2 e3
    refine ⟨g, e1, fun j hj => ?_⟩
    rw [e1] at h
    have k := h.cellAt j (by omega)
    rw [k, List.getElem?_map, List.getElem?_eq_getElem hj]; rfl

set_option maxHeartbeats 1000000 in
theorem sameTexts_eq (xs : List ByteArray) (b1 b2 : Nat) (a1 a2 : Option Addr) (c1 c2 : Nat) (w : World) (hn : xs.length ≤ maxLen)
    (h1 : w.ownsRow b1 9 1 (.slice a1 xs.length c1) xs.length (xs.map Value.string)) (h2 : w.ownsRow b2 9 1 (.slice a2 xs.length c2) xs.length (xs.map Value.string)) :
    Calls Tryd.prog 10 #[.slice a1 xs.length c1, .slice a2 xs.length c2] w fun e w' => e = .returned (.bool true) ∧ Below w.heap.size w w' := by
  unfold maxLen at hn
  rcases Nat.eq_zero_or_pos xs.length with h0 | hp
  · rw [h0]
    clear h1 h2
    go_enter Tryd.func10, Tryd.ntmps10
    go_wp2_with fail
    refine wp_loop_rounds 1 ?_
    rw [rounds_succ]
    go_wp2
    go_ret
    exact ⟨rfl, Below.refl _ _⟩
  · obtain ⟨g1, rfl, k1⟩ := owns_at h1 hp
    obtain ⟨g2, rfl, k2⟩ := owns_at h2 hp
    clear h1 h2
    go_enter Tryd.func10, Tryd.ntmps10
    go_wp2_with fail
    go_loopw [5] (fun vi wr => ∃ k d : Nat, k ≤ xs.length ∧ vi = .int .i64 k ∧ wr = w.drewN d) (fun vi _ => xs.length - (intOf vi).toNat)
    case atStart => exact ⟨0, 0, Nat.zero_le _, rfl, by simp [World.drewN_zero]⟩
    case round =>
      obtain ⟨k, d, hk, rfl, rfl⟩ := hrel
      by_cases hlt : k < xs.length
      · have q1 := k1 k hlt
        have q2 := k2 k hlt
        generalize xs[k] = x at *
        clear k1 k2
        go_wp2
        go_quiet (fail)
        go_wp2
        go_roundw
        case rel => exact ⟨k + 1, _, by omega, by go_num, rfl⟩
        case measure => simp [intOf]; omega
      · go_wp2
        go_ret
        exact ⟨rfl, by refine ⟨?_, ?_, ?_, ?_, ?_⟩ <;> simp [World.drewN]⟩

end Go.Proofs.YtflgjhknobnnaabDoor
