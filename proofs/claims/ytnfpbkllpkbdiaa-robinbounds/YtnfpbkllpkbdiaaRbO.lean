/- The document's example, walked. -/
import Derived.Test.YtnfpbkllpkbdiaaRbN
namespace Go.Proofs.Ytnfpbkllpkbdiaa
open Go.RowKit
set_option linter.unusedVariables false

set_option maxRecDepth 100000 in
theorem grant_eql (a b c d : Int) (W : World) : (binOp .eql 36 (.agg #[.int .i64 a, .int .i64 b]) (.agg #[.int .i64 c, .int .i64 d])).run Try.prog W = .ok (.bool (a == c && b == d)) W := by
  rw [run_eql_struct, run_equalIn_agg W 9999 36 _ _ (by kernel_rfl) (by kernel_rfl)]
  unfold Program.fieldsOf
  rw [Try.underlying36]
  simp [Op.eqFields, part, go_sem, Try.underlying3, Try.isAgg3]
  by_cases h1 : a = c
  · by_cases h2 : b = d <;> simp [h1, h2]
  · simp [h1]
set_option maxRecDepth 100000 in
set_option maxHeartbeats 600000 in
theorem alive16_any (w : World) : Calls Try.prog 5 #[] w fun e w' => e = .returned (.bool true) ∧ Below w.heap.size w w' := by
  have HN := hidE (rbnew_any 100 w)
  rw [show qB 100 = 100 by decide] at HN
  go_enter Try.func5, Try.ntmps5
  go_wp2_with fail
  refine HN.out.mono ?_
  rintro e w1 ⟨rfl, hR, hs, B1⟩
  clear HN
  have BA : Below w1.heap.size w1 (w1.alloc (.cells #[.int .i64 1, .int .i64 100, .int .i64 2, .int .i64 100] 31)) := (Below.refl _ _).alloc (Nat.le_refl _) _
  have HRd := hidE (rbround_any [(1, 100), (2, 100)] (some ⟨w1.heap.size, 0, none⟩) 2 w.heap.size 100 0 9223372036854775807 (w1.alloc (.cells #[.int .i64 1, .int .i64 100, .int .i64 2, .int .i64 100] 31)) (hR.below BA hR.lt) (fls_blk (tblk_new _ _) rfl rfl (by decide)) (by decide) (by decide) (by decide) (by decide) (by decide) (by decide))
  have HB1 : Hid (Below w.heap.size w (w1.alloc (.cells #[.int .i64 1, .int .i64 100, .int .i64 2, .int .i64 100] 31))) := B1.trans (BA.mono B1.size)
  have HS := hidE hs
  clear hR BA B1 hs
  go_wp2_with fail
  refine HRd.out.mono ?_
  rintro e w2 ⟨W, hW, v2, rfl, G2, R2, X2⟩
  rw [ex1_wait hW, ex1_loop] at G2 R2
  clear HRd hW
  have HB2 : Hid (Below w.heap.size w w2) := HB1.out.trans (X2.below (Nat.le_refl _) HB1.out.size)
  obtain ⟨g2, c2, rfl, hg2, hg2', hc2⟩ := G2.at (by decide)
  have a0 : w2.cell? ⟨g2, 0, none⟩ = some (.int .i64 1) := (hc2 0 (by decide)).1
  have a1 : w2.cell? ⟨g2, 1, none⟩ = some (.int .i64 64) := (hc2 0 (by decide)).2
  have hgw : w.heap.size ≠ g2 := by
    have e : (w1.alloc (.cells #[.int .i64 1, .int .i64 100, .int .i64 2, .int .i64 100] 31)).heap.size = w1.heap.size + 1 := by simp
    have := HS.out
    omega
  have HC := hidE (rbcredit_any w.heap.size 100 36 1 w2 R2)
  have BA : Below w2.heap.size w2 (w2.alloc (.cells #[.int .i64 1, .int .i64 36, .int .i64 2, .int .i64 100] 31)) := (Below.refl _ _).alloc (Nat.le_refl _) _
  have HRd := hidE (rbround_any [(1, 36), (2, 100)] (some ⟨w2.heap.size, 0, none⟩) 2 w.heap.size 100 36 1 (w2.alloc (.cells #[.int .i64 1, .int .i64 36, .int .i64 2, .int .i64 100] 31)) (R2.below BA R2.lt) (fls_blk (tblk_new _ _) rfl rfl (by decide)) (by decide) (by decide) (by decide) (by decide) (by decide) (by decide))
  have HB3 : Hid (Below w.heap.size w (w2.alloc (.cells #[.int .i64 1, .int .i64 36, .int .i64 2, .int .i64 100] 31))) := HB2.out.trans (BA.mono HB2.out.size)
  have b0 := (BA.cell (p := ⟨g2, 0, none⟩) hg2').trans a0
  have b1 := (BA.cell (p := ⟨g2, 1, none⟩) hg2').trans a1
  have hgs := Nat.lt_of_lt_of_le hg2' BA.size
  clear X2 HB1 hc2 a0 a1 BA R2 G2 hg2 HS
  have HCL : Hid (w2.alloc (.cells #[.int .i64 1, .int .i64 36, .int .i64 2, .int .i64 100] 31) = w2.alloc (.cells #[.int .i64 1, .int .i64 36, .int .i64 2, .int .i64 100] 31)) := rfl
  have Hb0 := hidE b0
  have Hb1 := hidE b1
  clear b0 b1
  go_wp2_with fail
  refine HC.out.mono ?_
  rintro e w3 ⟨rfl, rfl⟩
  clear HC
  go_wp2_with fail
  refine HRd.out.mono ?_
  rintro e w4 ⟨W, hW, v4, rfl, G4, R4, X4⟩
  rw [ex2_wait hW, ex2_loop] at G4 R4
  clear HRd hW
  have HB4 : Hid (Below w.heap.size w w4) := HB3.out.trans (X4.below (Nat.le_refl _) HB3.out.size)
  have a0 : w4.cell? ⟨g2, 0, none⟩ = some (.int .i64 1) := by
    have := Hb0.out
    unfold World.cell? at this ⊢
    rw [X4.block g2 hgs hgw.symm]
    exact this
  have a1 : w4.cell? ⟨g2, 1, none⟩ = some (.int .i64 64) := by
    have := Hb1.out
    unfold World.cell? at this ⊢
    rw [X4.block g2 hgs hgw.symm]
    exact this
  obtain ⟨g4, c4, rfl, hg4, hg4', hc4⟩ := G4.at (by decide)
  have d0 : w4.cell? ⟨g4, 0, none⟩ = some (.int .i64 2) := (hc4 0 (by decide)).1
  have d1 : w4.cell? ⟨g4, 1, none⟩ = some (.int .i64 64) := (hc4 0 (by decide)).2
  have d4 : w4.cell? ⟨g4, 4, none⟩ = some (.int .i64 2) := (hc4 2 (by decide)).1
  have d5 : w4.cell? ⟨g4, 5, none⟩ = some (.int .i64 36) := (hc4 2 (by decide)).2
  have HC := hidE (rbcredit_any w.heap.size 100 0 2 w4 R4)
  have E1 := grant_eql 1 64 1 64
  have E2 := grant_eql 2 64 2 64
  have E3 := grant_eql 2 36 2 36
  clear X4 hc4 G4 R4 hgs Hb0 Hb1 HCL HB3
  go_wp2_with fail
  refine HC.out.mono ?_
  rintro e w5 ⟨rfl, rfl⟩
  go_wp2
  go_ret
  exact ⟨rfl, HB4.out⟩
end Go.Proofs.Ytnfpbkllpkbdiaa
