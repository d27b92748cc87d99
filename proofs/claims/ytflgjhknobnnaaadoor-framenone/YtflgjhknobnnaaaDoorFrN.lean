/- FrameNone, walked. -/
import Derived.Test.YtflgjhknobnnaaaDoorFrE
namespace Go.Proofs.YtflgjhknobnnaaaDoor
open Go.ChangeShapes Go.WideShapes Go.ChangeAt Go.RowKit
set_option linter.unusedVariables false

theorem told_no (fs : Fs) (minor : Int) (h1 : thereF fs tTE = false) (h2 : thereF fs tCL = false) : toldF fs minor = (3, 0, 0) := by
  unfold toldF
  rw [h1, h2]; rfl
theorem bare_head (code : Int) : bareF ⟨#[72, 69, 65, 68]⟩ code = true := by
  unfold bareF
  rw [decide_eq_true rfl]; rfl

set_option maxRecDepth 100000 in
set_option maxHeartbeats 2000000 in
theorem none_walk (a : Option Addr) (n c : Nat) (m : ByteArray) (code : Int) (w : World) (hn : n ≤ maxLen) (hM : MaxL w) : Calls Tryd.prog 6 #[.slice a n c, .string m, .int .i64 code] w fun e w' => e = .returned (.bool true) ∧ Below w.heap.size w w' := by
  have R1 : Hid (∀ code minor, bareF m code = true → ∀ W, Calls Tryd.prog 13 #[.string m, .agg #[.int .i64 code, .string ⟨#[]⟩, .int .i64 minor, .slice a n c, .slice none 0 0]] W fun e w' => e = .returned (.tuple #[.int .i64 0, .int .i64 0, .bool true]) ∧ Below W.heap.size W w') := fun code minor h W => resp_bare m ⟨#[]⟩ code minor a none n c 0 0 W h
  have R2 : Hid (∀ W, Calls Tryd.prog 13 #[.string ⟨#[72, 69, 65, 68]⟩, .agg #[.int .i64 code, .string ⟨#[]⟩, .int .i64 0, .slice a n c, .slice none 0 0]] W fun e w' => e = .returned (.tuple #[.int .i64 0, .int .i64 0, .bool true]) ∧ Below W.heap.size W w') := fun W => resp_bare _ ⟨#[]⟩ code 0 a none n c 0 0 W (bare_head code)
  unfold maxLen at hn
  obtain ⟨z, hz, hbz0⟩ := and_mask code 63 (by decide)
  have hbz : bits BinOp.and IntKind.i64 code 63 = (z : Int) := hbz0
  obtain ⟨y, hy, hby0⟩ := and_mask code 1 (by decide)
  have hby : bits BinOp.and IntKind.i64 code 1 = (y : Int) := hby0
  clear hbz0 hby0
  have R3 : Hid (∀ (W : World) (g : Nat), W.heap[g]? = some (.cells #[.string ⟨#[88]⟩, .string ⟨#[53]⟩] 36) → MaxL W → Calls Tryd.prog 9 #[.slice (some ⟨g, 0, none⟩) 1 1, .int .i64 code] W fun e w' => e = .returned (.tuple #[.int .i64 0, .bool false, .int .i64 0]) ∧ Below W.heap.size W w') := fun W g hg hM => by
    have k := request_any [(⟨#[88]⟩, ⟨#[53]⟩)] (some ⟨g, 0, none⟩) 1 code W (fds_one hg) (bd_one (by decide) (by decide)) (by decide) hM
    have e : reqF [(⟨#[88]⟩, ⟨#[53]⟩)] code = (0, false, 0) := by unfold reqF; rw [told_no _ _ (by decide +kernel) (by decide +kernel)]; rfl
    rw [e] at k
    exact k
  have R4 : Hid (∀ W : World, MaxL W → Calls Tryd.prog 13 #[.string ⟨#[71, 69, 84]⟩, .agg #[.int .i64 200, .string ⟨#[]⟩, .int .i64 (y : Int), .slice none 0 0, .slice none 0 0]] W fun e w' => e = .returned (.tuple #[.int .i64 3, .int .i64 0, .bool true]) ∧ Below W.heap.size W w') := fun W hM => by
    have k := response_any ⟨#[71, 69, 84]⟩ ⟨#[]⟩ 200 (y : Int) [] none none 0 0 0 W (fds_nil W) (fun f hf => by cases hf) (by decide) hM
    have e : respF ⟨#[71, 69, 84]⟩ 200 (y : Int) [] = (3, 0, true) := by
      unfold respF
      rw [show bareF ⟨#[71, 69, 84]⟩ 200 = false by decide +kernel, if_neg (by decide), told_no _ _ (by decide +kernel) (by decide +kernel)]; rfl
    rw [e] at k
    exact k
  by_cases hb : (100 : Int) < (n : Int)
  · go_enter Tryd.func6, Tryd.ntmps6
    go_wp2_with fail
    refine (alive7_any _ hM).mono ?_
    rintro e w1 ⟨rfl, B1⟩
    go_wp2
    go_ret
    exact ⟨rfl, B1⟩
  · go_enter Tryd.func6, Tryd.ntmps6
    go_wp2_with fail
    refine (alive7_any _ hM).mono ?_
    rintro e w1 ⟨rfl, B1⟩
    go_wp2_with fail
    have hg0 : (w1.alloc (.cells #[.int .i64 204, .string ⟨#[]⟩, .int .i64 0, .slice a n c, .slice none 0 0, .int .i64 304, .string ⟨#[]⟩, .int .i64 1, .slice a n c, .slice none 0 0, .int .i64 (100 + (z : Int)), .string ⟨#[]⟩, .int .i64 0, .slice a n c, .slice none 0 0] 29)).heap[w1.heap.size]? = some (.cells #[.int .i64 204, .string ⟨#[]⟩, .int .i64 0, .slice a n c, .slice none 0 0, .int .i64 304, .string ⟨#[]⟩, .int .i64 1, .slice a n c, .slice none 0 0, .int .i64 (100 + (z : Int)), .string ⟨#[]⟩, .int .i64 0, .slice a n c, .slice none 0 0] 29) := tblk_new _ _
    have hB0 : Below w.heap.size w (w1.alloc (.cells #[.int .i64 204, .string ⟨#[]⟩, .int .i64 0, .slice a n c, .slice none 0 0, .int .i64 304, .string ⟨#[]⟩, .int .i64 1, .slice a n c, .slice none 0 0, .int .i64 (100 + (z : Int)), .string ⟨#[]⟩, .int .i64 0, .slice a n c, .slice none 0 0] 29)) := B1.alloc B1.size _
    generalize (w1.alloc (.cells #[.int .i64 204, .string ⟨#[]⟩, .int .i64 0, .slice a n c, .slice none 0 0, .int .i64 304, .string ⟨#[]⟩, .int .i64 1, .slice a n c, .slice none 0 0, .int .i64 (100 + (z : Int)), .string ⟨#[]⟩, .int .i64 0, .slice a n c, .slice none 0 0] 29)) = W0 at *
    go_loopw [37] (fun vi wr => ∃ k : Nat, k ≤ 3 ∧ vi = .int .i64 k ∧ wr.heap[w1.heap.size]? = some (.cells #[.int .i64 204, .string ⟨#[]⟩, .int .i64 0, .slice a n c, .slice none 0 0, .int .i64 304, .string ⟨#[]⟩, .int .i64 1, .slice a n c, .slice none 0 0, .int .i64 (100 + (z : Int)), .string ⟨#[]⟩, .int .i64 0, .slice a n c, .slice none 0 0] 29) ∧ Below w.heap.size w wr) (fun vi _ => 3 - (intOf vi).toNat)
    case atStart => exact ⟨0, by omega, rfl, hg0, hB0⟩
    case round =>
      obtain ⟨k, hk3, rfl, hg, hB⟩ := hrel
      clear hg0 hB0 B1
      have hk4 : k = 0 ∨ k = 1 ∨ k = 2 ∨ k = 3 := by omega
      clear hk3
      rcases hk4 with hk | hk | hk | hk
      · subst hk
        have c0 : wr.cell? ⟨w1.heap.size, 0, none⟩ = some (.int .i64 204) := tblk_cell hg rfl
        have c1 : wr.cell? ⟨w1.heap.size, 1, none⟩ = some (.string ⟨#[]⟩) := tblk_cell hg rfl
        have c2 : wr.cell? ⟨w1.heap.size, 2, none⟩ = some (.int .i64 0) := tblk_cell hg rfl
        have c3 : wr.cell? ⟨w1.heap.size, 3, none⟩ = some (.slice a n c) := tblk_cell hg rfl
        have c4 : wr.cell? ⟨w1.heap.size, 4, none⟩ = some (.slice none 0 0) := tblk_cell hg rfl
        have HW : Hid (wr.heap[w1.heap.size]? = some (.cells #[.int .i64 204, .string ⟨#[]⟩, .int .i64 0, .slice a n c, .slice none 0 0, .int .i64 304, .string ⟨#[]⟩, .int .i64 1, .slice a n c, .slice none 0 0, .int .i64 (100 + (z : Int)), .string ⟨#[]⟩, .int .i64 0, .slice a n c, .slice none 0 0] 29)) := hg
        clear hg
        go_wp2_with fail
        refine (R1.out 204 0 (by unfold bareF; simp) _).mono ?_
        rintro e w2 ⟨rfl, B2⟩
        have C2 : Below wr.heap.size wr w2 := ((Below.refl _ _).alloc (Nat.le_refl _) _).trans (B2.mono (by simp))
        have hg2 : Hid (w2.heap[w1.heap.size]? = some (.cells #[.int .i64 204, .string ⟨#[]⟩, .int .i64 0, .slice a n c, .slice none 0 0, .int .i64 304, .string ⟨#[]⟩, .int .i64 1, .slice a n c, .slice none 0 0, .int .i64 (100 + (z : Int)), .string ⟨#[]⟩, .int .i64 0, .slice a n c, .slice none 0 0] 29)) := tblk_below HW.out C2
        have hB2 := hB.trans (C2.mono hB.size)
        clear c0 c1 c2 c3 c4 HW B2 C2 hB
        go_wp2
        go_roundw
        case rel => exact ⟨1, by omega, rfl, hg2.out, hB2⟩
        case measure => simp [intOf]
      · subst hk
        have c0 : wr.cell? ⟨w1.heap.size, 5, none⟩ = some (.int .i64 304) := tblk_cell hg rfl
        have c1 : wr.cell? ⟨w1.heap.size, 6, none⟩ = some (.string ⟨#[]⟩) := tblk_cell hg rfl
        have c2 : wr.cell? ⟨w1.heap.size, 7, none⟩ = some (.int .i64 1) := tblk_cell hg rfl
        have c3 : wr.cell? ⟨w1.heap.size, 8, none⟩ = some (.slice a n c) := tblk_cell hg rfl
        have c4 : wr.cell? ⟨w1.heap.size, 9, none⟩ = some (.slice none 0 0) := tblk_cell hg rfl
        have HW : Hid (wr.heap[w1.heap.size]? = some (.cells #[.int .i64 204, .string ⟨#[]⟩, .int .i64 0, .slice a n c, .slice none 0 0, .int .i64 304, .string ⟨#[]⟩, .int .i64 1, .slice a n c, .slice none 0 0, .int .i64 (100 + (z : Int)), .string ⟨#[]⟩, .int .i64 0, .slice a n c, .slice none 0 0] 29)) := hg
        clear hg
        go_wp2_with fail
        refine (R1.out 304 1 (by unfold bareF; simp) _).mono ?_
        rintro e w2 ⟨rfl, B2⟩
        have C2 : Below wr.heap.size wr w2 := ((Below.refl _ _).alloc (Nat.le_refl _) _).trans (B2.mono (by simp))
        have hg2 : Hid (w2.heap[w1.heap.size]? = some (.cells #[.int .i64 204, .string ⟨#[]⟩, .int .i64 0, .slice a n c, .slice none 0 0, .int .i64 304, .string ⟨#[]⟩, .int .i64 1, .slice a n c, .slice none 0 0, .int .i64 (100 + (z : Int)), .string ⟨#[]⟩, .int .i64 0, .slice a n c, .slice none 0 0] 29)) := tblk_below HW.out C2
        have hB2 := hB.trans (C2.mono hB.size)
        clear c0 c1 c2 c3 c4 HW B2 C2 hB
        go_wp2
        go_roundw
        case rel => exact ⟨2, by omega, rfl, hg2.out, hB2⟩
        case measure => simp [intOf]
      · subst hk
        have c0 : wr.cell? ⟨w1.heap.size, 10, none⟩ = some (.int .i64 (100 + (z : Int))) := tblk_cell hg rfl
        have c1 : wr.cell? ⟨w1.heap.size, 11, none⟩ = some (.string ⟨#[]⟩) := tblk_cell hg rfl
        have c2 : wr.cell? ⟨w1.heap.size, 12, none⟩ = some (.int .i64 0) := tblk_cell hg rfl
        have c3 : wr.cell? ⟨w1.heap.size, 13, none⟩ = some (.slice a n c) := tblk_cell hg rfl
        have c4 : wr.cell? ⟨w1.heap.size, 14, none⟩ = some (.slice none 0 0) := tblk_cell hg rfl
        have HW : Hid (wr.heap[w1.heap.size]? = some (.cells #[.int .i64 204, .string ⟨#[]⟩, .int .i64 0, .slice a n c, .slice none 0 0, .int .i64 304, .string ⟨#[]⟩, .int .i64 1, .slice a n c, .slice none 0 0, .int .i64 (100 + (z : Int)), .string ⟨#[]⟩, .int .i64 0, .slice a n c, .slice none 0 0] 29)) := hg
        clear hg
        go_wp2_with fail
        refine (R1.out (100 + (z : Int)) 0 (by unfold bareF; rw [decide_eq_true (show (100 + (z : Int)) < 200 by omega)]; simp) _).mono ?_
        rintro e w2 ⟨rfl, B2⟩
        have C2 : Below wr.heap.size wr w2 := ((Below.refl _ _).alloc (Nat.le_refl _) _).trans (B2.mono (by simp))
        have hg2 : Hid (w2.heap[w1.heap.size]? = some (.cells #[.int .i64 204, .string ⟨#[]⟩, .int .i64 0, .slice a n c, .slice none 0 0, .int .i64 304, .string ⟨#[]⟩, .int .i64 1, .slice a n c, .slice none 0 0, .int .i64 (100 + (z : Int)), .string ⟨#[]⟩, .int .i64 0, .slice a n c, .slice none 0 0] 29)) := tblk_below HW.out C2
        have hB2 := hB.trans (C2.mono hB.size)
        clear c0 c1 c2 c3 c4 HW B2 C2 hB
        go_wp2
        go_roundw
        case rel => exact ⟨3, by omega, rfl, hg2.out, hB2⟩
        case measure => simp [intOf]
      · subst hk
        clear hg
        have M0 := hM.below hB
        go_wp2_with fail
        refine (R2.out _).mono ?_
        rintro e w2 ⟨rfl, B2⟩
        have D2 := hB.trans (B2.mono hB.size)
        go_wp2_with fail
        refine (of_any _ _ _).mono ?_
        rintro e w3 ⟨g3, rfl, hl3, hg3, B3⟩
        have D3 := D2.trans (B3.mono D2.size)
        go_wp2_with fail
        refine (R3.out _ _ hg3 (hM.below D3)).mono ?_
        rintro e w4 ⟨rfl, B4⟩
        have D4 := D3.trans (B4.mono D3.size)
        go_wp2_with fail
        refine (R4.out _ (hM.below D4)).mono ?_
        rintro e w5 ⟨rfl, B5⟩
        have D5 := D4.trans (B5.mono D4.size)
        clear B2 B3 B4 B5
        go_wp2
        go_ret
        exact ⟨rfl, D5⟩
end Go.Proofs.YtflgjhknobnnaaaDoor
