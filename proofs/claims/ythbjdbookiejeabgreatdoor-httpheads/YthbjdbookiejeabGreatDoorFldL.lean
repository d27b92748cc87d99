/- A field's line. -/
import Derived.Test.YthbjdbookiejeabGreatDoorFldA
namespace Go.Proofs.YthbjdbookiejeabGreatDoor
open Go.RowKit
set_option linter.unusedVariables false

theorem cat_run (W : World) (a b : ByteArray) (h : a.size + b.size ≤ 281474976710656) : (Op.stringOp .add a b).run Tryz.prog W = .ok (.string (a ++ b)) W :=
  run_string_add_sum W a b (by omega)
/-- A field's line. -/
def lineT (n v : ByteArray) : ByteArray := n ++ ⟨#[58, 32]⟩ ++ v ++ ⟨#[13, 10]⟩
set_option maxHeartbeats 1000000 in
theorem line_any (n v : ByteArray) (w : World) (h : n.size + v.size ≤ 140737488355328) : Calls Tryz.prog 94 #[.agg #[.string n, .string v]] w fun e w' => e = .returned (.string (lineT n v)) ∧ Below w.heap.size w w' := by
  unfold lineT
  have h1 := fun W : World => cat_run W n ⟨#[58, 32]⟩ (by show _ + 2 ≤ _; omega)
  have h2 := fun W : World => cat_run W (n ++ ⟨#[58, 32]⟩) v (by rw [cat_size]; show _ + 2 + _ ≤ _; omega)
  have h3 := fun W : World => cat_run W (n ++ ⟨#[58, 32]⟩ ++ v) ⟨#[13, 10]⟩ (by rw [cat_size, cat_size]; show _ + 2 + _ + 2 ≤ _; omega)
  clear h
  go_enter Tryz.func94, Tryz.ntmps94
  go_wp2
  go_ret
  exact ⟨rfl, (Below.refl _ _).alloc (Nat.le_refl _) _⟩
end Go.Proofs.YthbjdbookiejeabGreatDoor
