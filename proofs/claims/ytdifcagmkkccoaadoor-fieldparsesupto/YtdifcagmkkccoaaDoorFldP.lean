/- The examples of Parse and Line; FieldParses, walked. -/
import Derived.Test.YtdifcagmkkccoaaDoorFldB
namespace Go.Proofs.YtdifcagmkkccoaaDoor
open Go.RowKit
set_option linter.unusedVariables false

set_option maxRecDepth 100000 in
set_option maxHeartbeats 4000000 in
theorem parsing_any (w : World) (hM : MaxL w) : Calls Tryd.prog 5 #[] w fun e w' => e = .returned (.bool true) ∧ Below w.heap.size w w' := by
  have E1 : Hid (prs ⟨#[65, 45, 98, 58, 32, 32, 120, 32, 121, 9]⟩ = (⟨#[65, 45, 98]⟩, ⟨#[120, 32, 121]⟩, 0)) := by rw [Hid]; decide +kernel
  have E2 : Hid (prs ⟨#[97, 32, 58, 32, 98]⟩ = (⟨#[]⟩, ⟨#[]⟩, 20)) := by rw [Hid]; decide +kernel
  have E3 : Hid (lineT ⟨#[65, 45, 98]⟩ ⟨#[120, 32, 121]⟩ = ⟨#[65, 45, 98, 58, 32, 120, 32, 121, 13, 10]⟩) := by rw [Hid]; decide +kernel
  have P1 := parse_any ⟨#[65, 45, 98, 58, 32, 32, 120, 32, 121, 9]⟩ w (by decide) hM
  rw [E1.out] at P1
  have HP1 : Hid (Calls Tryd.prog 6 #[.string ⟨#[65, 45, 98, 58, 32, 32, 120, 32, 121, 9]⟩] w fun e w' => e = .returned (.tuple #[.agg #[.string ⟨#[65, 45, 98]⟩, .string ⟨#[120, 32, 121]⟩], .int .i64 0]) ∧ Below w.heap.size w w') := P1
  clear P1
  go_enter Tryd.func5, Tryd.ntmps5
  go_wp2_with fail
  refine HP1.out.mono ?_
  rintro e w1 ⟨rfl, B1⟩
  have C1 := B1.alloc B1.size (.cells #[.string ⟨#[65, 45, 98]⟩, .string ⟨#[120, 32, 121]⟩] 24)
  have g1 := tblk_new w1 (.cells #[.string ⟨#[65, 45, 98]⟩, .string ⟨#[120, 32, 121]⟩] 24)
  have M1 : MaxL (w1.alloc (.cells #[.string ⟨#[65, 45, 98]⟩, .string ⟨#[120, 32, 121]⟩] 24)) := hM.below C1
  have P2 := parse_any ⟨#[97, 32, 58, 32, 98]⟩ _ (by decide) M1
  rw [E2.out] at P2
  have HP2 : Hid (Calls Tryd.prog 6 #[.string ⟨#[97, 32, 58, 32, 98]⟩] (w1.alloc (.cells #[.string ⟨#[65, 45, 98]⟩, .string ⟨#[120, 32, 121]⟩] 24)) fun e w' => e = .returned (.tuple #[.agg #[.string ⟨#[]⟩, .string ⟨#[]⟩], .int .i64 20]) ∧ Below (w1.alloc (.cells #[.string ⟨#[65, 45, 98]⟩, .string ⟨#[120, 32, 121]⟩] 24)).heap.size (w1.alloc (.cells #[.string ⟨#[65, 45, 98]⟩, .string ⟨#[120, 32, 121]⟩] 24)) w') := P2
  clear P2 HP1 B1 M1
  go_wp2_with fail
  refine HP2.out.mono ?_
  rintro e w2 ⟨rfl, B2⟩
  have g2 := tblk_below g1 B2
  have C2 := C1.trans (B2.mono C1.size)
  have C3 := C2.alloc C2.size (.cells #[.string ⟨#[]⟩, .string ⟨#[]⟩] 24)
  have g3 : (w2.alloc (.cells #[.string ⟨#[]⟩, .string ⟨#[]⟩] 24)).heap[w1.heap.size]? = some (.cells #[.string ⟨#[65, 45, 98]⟩, .string ⟨#[120, 32, 121]⟩] 24) := (Below.heap_alloc _ _ _ (Array.getElem?_eq_some_iff.1 g2).1).trans g2
  have hl2 : w1.heap.size < w2.heap.size := (Array.getElem?_eq_some_iff.1 g2).1
  clear HP2 B2 C1 C2 g1
  have c0 : w2.cell? ⟨w1.heap.size, 0, none⟩ = some (.string ⟨#[65, 45, 98]⟩) := tblk_cell g2 rfl
  have c1 : w2.cell? ⟨w1.heap.size, 1, none⟩ = some (.string ⟨#[120, 32, 121]⟩) := tblk_cell g2 rfl
  have HL := line_any ⟨#[65, 45, 98]⟩ ⟨#[120, 32, 121]⟩ (w2.alloc (.cells #[.string ⟨#[]⟩, .string ⟨#[]⟩] 24)) (by decide)
  rw [E3.out] at HL
  have HL2 : Hid (Calls Tryd.prog 21 #[.agg #[.string ⟨#[65, 45, 98]⟩, .string ⟨#[120, 32, 121]⟩]] (w2.alloc (.cells #[.string ⟨#[]⟩, .string ⟨#[]⟩] 24)) fun e w' => e = .returned (.string ⟨#[65, 45, 98, 58, 32, 120, 32, 121, 13, 10]⟩) ∧ Below (w2.alloc (.cells #[.string ⟨#[]⟩, .string ⟨#[]⟩] 24)).heap.size (w2.alloc (.cells #[.string ⟨#[]⟩, .string ⟨#[]⟩] 24)) w') := HL
  clear HL g2 g3 E1 E2 E3
  go_wp2_with fail
  refine HL2.out.mono ?_
  rintro e w4 ⟨rfl, B4⟩
  go_wp2
  go_ret
  exact ⟨rfl, C3.trans (B4.mono C3.size)⟩

set_option maxRecDepth 100000 in
set_option maxHeartbeats 4000000 in
theorem parses_walk (s : ByteArray) (w : World) (hs : s.size ≤ 1048576) (hM : MaxL w) : Calls Tryd.prog 3 #[.string s] w fun e w' => e = .returned (.bool true) ∧ Below w.heap.size w w' := by
  have HP : Hid (∀ W, MaxL W → Calls Tryd.prog 6 #[.string s] W fun e w' => e = .returned (.tuple #[.agg #[.string (prs s).1, .string (prs s).2.1], .int .i64 (prs s).2.2]) ∧ Below W.heap.size W w') := fun W h => parse_any s W (by omega) h
  have HR : Hid (∀ W, Calls Tryd.prog 7 #[.string s] W fun e w' => e = .returned (.tuple #[.agg #[.string (prs s).1, .string (prs s).2.1], .bool (decide ((prs s).2.2 = 0))]) ∧ Below W.heap.size W w') := fun W => rparse_any s W (by omega)
  have hcase : (prs s).2.2 = 0 ∨ prs s = (⟨#[]⟩, ⟨#[]⟩, 20) := by
    unfold prs
    split
    · exact .inl rfl
    · exact .inr rfl
  clear hs
  go_enter Tryd.func3, Tryd.ntmps3
  go_wp2_with fail
  refine (parsing_any _ hM).mono ?_
  rintro e w1 ⟨rfl, B1⟩
  have M1 := hM.below B1
  generalize prs s = p at *
  obtain ⟨n, v, c⟩ := p
  simp only at HP HR hcase
  go_wp2_with fail
  refine (HP.out _ M1).mono ?_
  rintro e w2 ⟨rfl, B2⟩
  have C2 := B1.trans (B2.mono B1.size)
  have g2 := tblk_new w2 (.cells #[.string n, .string v] 24)
  have C3 := C2.alloc C2.size (.cells #[.string n, .string v] 24)
  clear B1 B2 C2 M1
  go_wp2_with fail
  refine (HR.out _).mono ?_
  rintro e w4 ⟨rfl, B4⟩
  have g4 := tblk_below g2 B4
  have C4 := C3.trans (B4.mono C3.size)
  have C5 := C4.alloc C4.size (.cells #[.string n, .string v] 24)
  have a0 : w4.cell? ⟨w2.heap.size, 0, none⟩ = some (.string n) := tblk_cell g4 rfl
  have a1 : w4.cell? ⟨w2.heap.size, 1, none⟩ = some (.string v) := tblk_cell g4 rfl
  have hl : w2.heap.size < w4.heap.size := (Array.getElem?_eq_some_iff.1 g4).1
  clear g2 g4 C3 C4 B4 HP HR
  rcases hcase with rfl | h
  · go_wp2
    go_ret
    exact ⟨ret_bT (by simp), C5⟩
  · injection h with h1 h2
    injection h2 with h2 h3
    subst h1 h2 h3
    go_wp2
    go_ret
    exact ⟨rfl, C5⟩
end Go.Proofs.YtdifcagmkkccoaaDoor
