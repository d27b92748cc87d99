/- The examples of Parse and Line. -/
import Derived.Test.YtflgjhknobnnaabDoorFldA
import Derived.Test.YtflgjhknobnnaabDoorFldL
namespace Go.Proofs.YtflgjhknobnnaabDoor
open Go.RowKit
set_option linter.unusedVariables false

set_option maxRecDepth 100000 in
set_option maxHeartbeats 4000000 in
theorem parsing_any (w : World) (hM : MaxL w) : Calls Tryd.prog 22 #[] w fun e w' => e = .returned (.bool true) ∧ Below w.heap.size w w' := by
  have E1 : Hid (prs ⟨#[65, 45, 98, 58, 32, 32, 120, 32, 121, 9]⟩ = (⟨#[65, 45, 98]⟩, ⟨#[120, 32, 121]⟩, 0)) := by rw [Hid]; decide +kernel
  have E2 : Hid (prs ⟨#[97, 32, 58, 32, 98]⟩ = (⟨#[]⟩, ⟨#[]⟩, 20)) := by rw [Hid]; decide +kernel
  have E3 : Hid (lineT ⟨#[65, 45, 98]⟩ ⟨#[120, 32, 121]⟩ = ⟨#[65, 45, 98, 58, 32, 120, 32, 121, 13, 10]⟩) := by rw [Hid]; decide +kernel
  have P1 := parse_any ⟨#[65, 45, 98, 58, 32, 32, 120, 32, 121, 9]⟩ w (by decide) hM
  rw [E1.out] at P1
  have HP1 : Hid (Calls Tryd.prog 24 #[.string ⟨#[65, 45, 98, 58, 32, 32, 120, 32, 121, 9]⟩] w fun e w' => e = .returned (.tuple #[.agg #[.string ⟨#[65, 45, 98]⟩, .string ⟨#[120, 32, 121]⟩], .int .i64 0]) ∧ Below w.heap.size w w') := P1
  clear P1
  go_enter Tryd.func22, Tryd.ntmps22
  go_wp2_with fail
  refine HP1.out.mono ?_
  rintro e w1 ⟨rfl, B1⟩
  have C1 := B1.alloc B1.size (.cells #[.string ⟨#[65, 45, 98]⟩, .string ⟨#[120, 32, 121]⟩] 34)
  have g1 := tblk_new w1 (.cells #[.string ⟨#[65, 45, 98]⟩, .string ⟨#[120, 32, 121]⟩] 34)
  have M1 : MaxL (w1.alloc (.cells #[.string ⟨#[65, 45, 98]⟩, .string ⟨#[120, 32, 121]⟩] 34)) := hM.below C1
  have P2 := parse_any ⟨#[97, 32, 58, 32, 98]⟩ _ (by decide) M1
  rw [E2.out] at P2
  have HP2 : Hid (Calls Tryd.prog 24 #[.string ⟨#[97, 32, 58, 32, 98]⟩] (w1.alloc (.cells #[.string ⟨#[65, 45, 98]⟩, .string ⟨#[120, 32, 121]⟩] 34)) fun e w' => e = .returned (.tuple #[.agg #[.string ⟨#[]⟩, .string ⟨#[]⟩], .int .i64 20]) ∧ Below (w1.alloc (.cells #[.string ⟨#[65, 45, 98]⟩, .string ⟨#[120, 32, 121]⟩] 34)).heap.size (w1.alloc (.cells #[.string ⟨#[65, 45, 98]⟩, .string ⟨#[120, 32, 121]⟩] 34)) w') := P2
  clear P2 HP1 B1 M1
  go_wp2_with fail
  refine HP2.out.mono ?_
  rintro e w2 ⟨rfl, B2⟩
  have g2 := tblk_below g1 B2
  have C2 := C1.trans (B2.mono C1.size)
  have C3 := C2.alloc C2.size (.cells #[.string ⟨#[]⟩, .string ⟨#[]⟩] 34)
  have g3 : (w2.alloc (.cells #[.string ⟨#[]⟩, .string ⟨#[]⟩] 34)).heap[w1.heap.size]? = some (.cells #[.string ⟨#[65, 45, 98]⟩, .string ⟨#[120, 32, 121]⟩] 34) := (Below.heap_alloc _ _ _ (Array.getElem?_eq_some_iff.1 g2).1).trans g2
  have hl2 : w1.heap.size < w2.heap.size := (Array.getElem?_eq_some_iff.1 g2).1
  clear HP2 B2 C1 C2 g1
  have c0 : w2.cell? ⟨w1.heap.size, 0, none⟩ = some (.string ⟨#[65, 45, 98]⟩) := tblk_cell g2 rfl
  have c1 : w2.cell? ⟨w1.heap.size, 1, none⟩ = some (.string ⟨#[120, 32, 121]⟩) := tblk_cell g2 rfl
  have HL := line_any ⟨#[65, 45, 98]⟩ ⟨#[120, 32, 121]⟩ (w2.alloc (.cells #[.string ⟨#[]⟩, .string ⟨#[]⟩] 34)) (by decide)
  rw [E3.out] at HL
  have HL2 : Hid (Calls Tryd.prog 23 #[.agg #[.string ⟨#[65, 45, 98]⟩, .string ⟨#[120, 32, 121]⟩]] (w2.alloc (.cells #[.string ⟨#[]⟩, .string ⟨#[]⟩] 34)) fun e w' => e = .returned (.string ⟨#[65, 45, 98, 58, 32, 120, 32, 121, 13, 10]⟩) ∧ Below (w2.alloc (.cells #[.string ⟨#[]⟩, .string ⟨#[]⟩] 34)).heap.size (w2.alloc (.cells #[.string ⟨#[]⟩, .string ⟨#[]⟩] 34)) w') := HL
  clear HL g2 g3 E1 E2 E3
  go_wp2_with fail
  refine HL2.out.mono ?_
  rintro e w4 ⟨rfl, B4⟩
  go_wp2
  go_ret
  exact ⟨rfl, C3.trans (B4.mono C3.size)⟩

end Go.Proofs.YtflgjhknobnnaabDoor
