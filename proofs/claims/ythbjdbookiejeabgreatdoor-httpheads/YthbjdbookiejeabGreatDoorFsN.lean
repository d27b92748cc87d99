/- A field in a block of its own. -/
import Derived.Test.YthbjdbookiejeabGreatDoorFsA
namespace Go.Proofs.YthbjdbookiejeabGreatDoor
open Go.ChangeShapes Go.WideShapes Go.ChangeAt Go.RowKit
set_option linter.unusedVariables false

theorem fds_new (w : World) (n v : ByteArray) : Fds (w.alloc (.cells #[.string n, .string v] 53)).heap.size (w.alloc (.cells #[.string n, .string v] 53)) (.slice (some ⟨w.heap.size, 0, none⟩) 1 1) [(n, v)] :=
  ⟨_, 1, rfl, (fun e => by cases e), Nat.le_refl _, by decide, fun _ => ⟨w.heap.size, 0, rfl, by simp, fun j hj => by
    have : j = 0 := by simpa using hj
    subst this
    exact ⟨tblk_cell (tblk_new _ _) rfl, tblk_cell (tblk_new _ _) rfl⟩⟩⟩

end Go.Proofs.YthbjdbookiejeabGreatDoor
