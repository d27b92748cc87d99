/- The examples of Cut. -/
import Derived.Test.YtbmpfjmnedlahabLinB
namespace Go.Proofs.Ytbmpfjmnedlahab
open Go.RowKit
set_option linter.unusedVariables false

theorem cut1 : cutV 9 [97, 98, 13, 10, 99, 100] = .tuple #[.string ⟨#[97, 98]⟩, .int .i64 4, .int .i64 0] := by rfl
theorem cut2 : cutV 2 [97, 98] = .tuple #[.string ⟨#[]⟩, .int .i64 0, .int .i64 0] := by rfl
theorem cut3 : cutV 2 [97, 98, 99] = .tuple #[.string ⟨#[]⟩, .int .i64 0, .int .i64 2] := by rfl
theorem cut4 : cutV 9 [97, 10, 98] = .tuple #[.string ⟨#[]⟩, .int .i64 0, .int .i64 20] := by rfl
/-- Cut of a literal. -/
theorem cut_lit (l : List UInt8) (n most : Nat) (row : Array Value) (fz : Nat × Nat) (x : Value) (hl : l.length = n) (hm : n ≤ maxLen) (hr : (rowB l).toArray = row) (hx : cutV most l = x) (w : World) :
    Calls Try.prog 5 #[.slice (some ⟨w.heap.size, 0, none⟩) n n, .int .i64 (most : Int)] (w.alloc (.cells row 5 fz)) fun e w' => e = .returned x ∧ Below w.heap.size w w' := by
  have k := cut_any l w.heap.size _ (most : Int) _ (lit_src w l n row fz hl hm hr)
  rw [Int.toNat_natCast, hx] at k
  refine k.mono ?_
  rintro e w' ⟨rfl, rfl⟩
  exact ⟨rfl, (Below.refl _ _).alloc (Nat.le_refl _) _⟩

set_option maxRecDepth 100000 in
set_option maxHeartbeats 2000000 in
theorem cutting_any (w : World) : Calls Try.prog 4 #[] w fun e w' => e = .returned (.bool true) ∧ Below w.heap.size w w' := by
  have hcs := conv_same
  go_enter Try.func4, Try.ntmps4
  go_wp2_with fail
  refine (cut_lit [97, 98, 13, 10, 99, 100] 6 9 _ _ _ rfl (by decide) rfl cut1 _).mono ?_
  rintro e w1 ⟨rfl, B1⟩
  go_wp2_with fail
  refine (cut_lit [97, 98] 2 2 _ _ _ rfl (by decide) rfl cut2 _).mono ?_
  rintro e w2 ⟨rfl, B2⟩
  have C2 := B1.trans (B2.mono B1.size)
  clear B1 B2
  go_wp2_with fail
  refine (cut_lit [97, 98, 99] 3 2 _ _ _ rfl (by decide) rfl cut3 _).mono ?_
  rintro e w3 ⟨rfl, B3⟩
  have C3 := C2.trans (B3.mono C2.size)
  clear C2 B3
  go_wp2_with fail
  refine (cut_lit [97, 10, 98] 3 9 _ _ _ rfl (by decide) rfl cut4 _).mono ?_
  rintro e w4 ⟨rfl, B4⟩
  have C4 := C3.trans (B4.mono C3.size)
  clear C3 B4
  go_wp2
  go_ret
  exact ⟨rfl, C4⟩
end Go.Proofs.Ytbmpfjmnedlahab
