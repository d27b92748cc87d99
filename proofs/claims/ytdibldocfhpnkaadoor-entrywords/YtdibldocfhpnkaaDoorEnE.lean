/- slices.Grow of nothing; slices.Concat of two rows of texts. -/
import Derived.Test.YtdibldocfhpnkaaDoorEnD
import Derived.Lib.AppendZerosOnto
import Derived.Laws.AppendOwn
namespace Go.Proofs.YtdibldocfhpnkaaDoor
open Go.RowKit
set_option linter.unusedVariables false

theorem grow_run (w : World) : ∃ Z : Array Value, Z.size = grownCap w 7 0 9 ∧ (Builtin.append_ #[55, 3] 55 #[.slice none 0 0, .int .i64 7]).run Tryd.prog w = .ok (.slice (some ⟨w.heap.size, 0, none⟩) 7 (grownCap w 7 0 9)) (w.drew.alloc (.cells Z 9)) := by
  obtain ⟨i, hi, hz0, hz1, hz2⟩ := info_parts info9
  have k := Lib.run_append_grow_zeros (P := Tryd.prog) w 55 3 55 9 i (.string ByteArray.empty) .i64 .i64 Tryd.underlying55 Tryd.underlying3 hi hz0 none 0 0 [] (run_firstCells_none _ _ _ _ _) 7 (by decide) (by rw [hz1]; decide) (by decide) (by decide) (by rw [hz2]; decide) (by rw [hz2]; decide)
  have hg := grownCap_ge w 7 0 9
  refine ⟨_, ?_, k⟩
  rw [Array.size_append, Array.size_append, size_zeroCells, size_zeroCells]
  show 0 + 7 * 1 + (grownCap w 7 0 9 - 7) * 1 = _
  omega
set_option maxRecDepth 100000 in
set_option maxHeartbeats 800000 in
theorem grow7 (w : World) : Calls Tryd.prog 59 #[.slice none 0 0, .int .i64 7] w fun e w' => ∃ c, e = .returned (.slice (some ⟨w.heap.size, 0, none⟩) 0 c) ∧ OwnT w.heap.size w' (.slice (some ⟨w.heap.size, 0, none⟩) 0 c) [] ∧ Below w.heap.size w w' := by
  obtain ⟨Z, hZ, hr⟩ := grow_run w
  have hg := grownCap_ge w 7 0 9
  have hm := grownCap_le_maxLen w 7 0 9 (by decide)
  generalize grownCap w 7 0 9 = C at *
  have hO : Hid (OwnT w.heap.size (w.drew.alloc (.cells Z 9)) (.slice (some ⟨w.heap.size, 0, none⟩) 0 C) []) := ⟨rfl, .inr ⟨w.heap.size, C, Z, rfl, Nat.le_refl _, tblk_new w.drew _, Nat.zero_le _, hm, by omega, by simp⟩⟩
  have hB : Below w.heap.size w (w.drew.alloc (.cells Z 9)) := (Below.refl _ _).drew.alloc (Nat.le_refl _) _
  unfold maxLen at hm
  clear hZ
  go_enter Tryd.func59, Tryd.ntmps59
  go_wp2_with (at_builtin; refine wpList_append_run2 rfl _ _ 55 3 rfl _ _ _ _ rfl rfl hr ?_)
  go_wp2
  go_ret
  exact ⟨C, rfl, hO.out, hB⟩
end Go.Proofs.YtdibldocfhpnkaaDoor
