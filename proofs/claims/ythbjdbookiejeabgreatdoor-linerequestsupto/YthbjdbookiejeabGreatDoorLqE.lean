/- LineRequests: the walk. -/
import Derived.Test.YthbjdbookiejeabGreatDoorLqC
import Derived.Test.YthbjdbookiejeabGreatDoorLqD
import Derived.Test.YthbjdbookiejeabGreatDoorLnH
namespace Go.Proofs.YthbjdbookiejeabGreatDoor
open Go.RowKit
set_option linter.unusedVariables false

set_option maxRecDepth 100000 in
set_option maxHeartbeats 4000000 in
theorem requests_walk (s : ByteArray) (w : World) (hs : s.size ≤ 1048576) (hL : Lv w) : Calls Tryz.prog 8 #[.string s] w fun e w' => e = .returned (.bool true) ∧ Below w.heap.size w w' := by
  have HR : Hid (∀ W, Below w.heap.size w W → Calls Tryz.prog 23 #[] W fun e w' => e = .returned (.bool true) ∧ Below W.heap.size W w') := fun W b => reading_any W (hL.below b)
  have H1 : Hid (∀ W, Below w.heap.size w W → Calls Tryz.prog 24 #[.string s] W fun e w' => e = .returned (.tuple #[rqV (rqP s), .int .i64 (rqP s).code]) ∧ Below W.heap.size W w') := fun W b => lreq_any s W (by omega) (hL.below b).max
  have H2 : Hid (∀ W, Calls Tryz.prog 25 #[.string s] W fun e w' => e = .returned (.tuple #[rqV (rqP s), .int .i64 (rqP s).code]) ∧ Below W.heap.size W w') := fun W => by
    have k := rreq_any s W (by omega)
    rw [← req_ref] at k
    exact k
  unfold rqV at H1 H2
  generalize rqP s = x at *
  obtain ⟨m, t, n, c⟩ := x
  simp only at H1 H2
  clear hL hs
  go_enter Tryz.func8, Tryz.ntmps8
  go_wp2_with fail
  refine (HR.out _ (Below.refl _ _)).mono ?_
  rintro e w1 ⟨rfl, C1⟩
  clear HR
  go_wp2_with fail
  refine (H1.out _ C1).mono ?_
  rintro e w2 ⟨rfl, B2⟩
  have C2 := C1.trans (B2.mono C1.size)
  clear C1 B2 H1
  go_wp2_with fail
  have C3 := C2.alloc C2.size (.cells #[.string m, .string t, .int .i64 n, .slice none 0 0, .slice none 0 0] 26)
  have hr := tblk_new w2 (.cells #[.string m, .string t, .int .i64 n, .slice none 0 0, .slice none 0 0] 26)
  refine (H2.out _).mono ?_
  generalize w2.alloc (.cells #[.string m, .string t, .int .i64 n, .slice none 0 0, .slice none 0 0] 26) = W2 at *
  rintro e w3 ⟨rfl, B3⟩
  have hr2 := tblk_below hr B3
  have C4 := C3.trans (B3.mono C3.size)
  have C5 := C4.alloc C4.size (.cells #[.string m, .string t, .int .i64 n, .slice none 0 0, .slice none 0 0] 26)
  have hq := tblk_new w3 (.cells #[.string m, .string t, .int .i64 n, .slice none 0 0, .slice none 0 0] 26)
  have hr3 := tblk_below hr2 ((Below.refl _ _).alloc (Nat.le_refl _) (.cells #[.string m, .string t, .int .i64 n, .slice none 0 0, .slice none 0 0] 26))
  clear hr hr2 C3 B3 H2 C4 C2
  have a0 := tblk_cell (i := 0) hr3 rfl
  have a1 := tblk_cell (i := 1) hr3 rfl
  have a2 := tblk_cell (i := 2) hr3 rfl
  have a3 := tblk_cell (i := 3) hr3 rfl
  have a4 := tblk_cell (i := 4) hr3 rfl
  have s0 := tblk_cell (i := 0) hq rfl
  have s1 := tblk_cell (i := 1) hq rfl
  have s2 := tblk_cell (i := 2) hq rfl
  clear hr3 hq
  generalize w2.heap.size = b0 at *
  go_wp2
  go_ret
  exact ⟨rfl, C5⟩
end Go.Proofs.YthbjdbookiejeabGreatDoor
