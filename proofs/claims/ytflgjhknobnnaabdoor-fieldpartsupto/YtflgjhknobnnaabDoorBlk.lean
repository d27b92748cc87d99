/- How large texts of fields are that a bounded reading holds. -/
import Derived.Test.YtflgjhknobnnaabDoorFsC
namespace Go.Proofs.YtflgjhknobnnaabDoor
set_option linter.unusedVariables false

theorem bulk_fs {H : Type} : ∀ (fs : Fs) (N : Nat), Rows.uptoBulkAll (H := H) (fs.map datF) ≤ N → FBd N fs
  | [], _, _ => fun f hf => by cases hf
  | f :: l, N, h => by
    simp only [List.map_cons, Rows.uptoBulkAll, datF, Rows.uptoBulk] at h
    have e1 : f.1.data.toList.length = f.1.size := rfl
    have e2 : f.2.data.toList.length = f.2.size := rfl
    intro x hx
    rcases List.mem_cons.1 hx with rfl | hx
    · omega
    · exact bulk_fs (H := H) l N (by show Rows.uptoBulkAll (l.map datF) ≤ N; omega) x hx
theorem bulk_slice {H : Type} {d : DataW H} {fs : Fs} {N : Nat} (hx : (d = .nil ∧ fs = []) ∨ ∃ sp, d = .slice (fs.map datF) sp) (h : Rows.uptoBulk d ≤ N) : FBd N fs := by
  rcases hx with ⟨_, rfl⟩ | ⟨sp, e⟩
  · intro f hf; cases hf
  · rw [e] at h
    simp only [Rows.uptoBulk] at h
    exact bulk_fs (H := H) fs N (by omega)
end Go.Proofs.YtflgjhknobnnaabDoor
