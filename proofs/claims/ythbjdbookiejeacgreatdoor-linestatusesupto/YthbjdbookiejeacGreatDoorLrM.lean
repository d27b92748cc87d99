/- The reference's Status: the other lines. -/
import Derived.Test.YthbjdbookiejeacGreatDoorLrP
namespace Go.Proofs.YthbjdbookiejeacGreatDoor
open Go.RowKit
set_option linter.unusedVariables false

set_option maxRecDepth 100000 in
set_option maxHeartbeats 8000000 in
theorem rstat_bad (s : ByteArray) (w : World) (hs : s.size ≤ maxLen) (hG : ¬ (¬ s.size < 12 ∧ at8 s 8 = 32 ∧ (rverL (s.extract 0 8).data.toList).2.2 = true ∧ (rverL (s.extract 0 8).data.toList).1 = 1 ∧ ¬ 1 < (rverL (s.extract 0 8).data.toList).2.1 ∧ spanP 48 57 (at8 s 9) = true ∧ spanP 48 57 (at8 s 10) = true ∧ spanP 48 57 (at8 s 11) = true)) : Calls Tryz.prog 7 #[.string s] w fun e w' => e = .returned (.tuple #[respV (refS s), .bool (refS s).ok]) ∧ Below w.heap.size w w' := by
  have D : Hid (∀ c W, Calls Tryz.prog 20 #[.int .u8 c] W fun e w' => e = .returned (.bool (spanP 48 57 c)) ∧ w' = W) := fun c W => rdig_any c W
  have hg0 := tblk_new w (.cells #[.int .i64 0, .string ⟨#[]⟩, .int .i64 0, .slice none 0 0, .slice none 0 0] 26)
  have C0 : Below w.heap.size w (w.alloc (.cells #[.int .i64 0, .string ⟨#[]⟩, .int .i64 0, .slice none 0 0, .slice none 0 0] 26)) := (Below.refl _ _).alloc (Nat.le_refl _) _
  unfold maxLen at hs
  unfold refS
  by_cases h12 : s.size < 12
  · rw [if_pos h12]
    have h12' : (s.size : Int) < 12 := by omega
    clear h12 D
    go_enter Tryz.func7, Tryz.ntmps7
    go_wp2
    refine bodyPost_ret (v := .tuple #[.agg #[.int .i64 0, .string ⟨#[]⟩, .int .i64 0, .slice none 0 0, .slice none 0 0], .bool false]) (by simp [results, Tryz.results7, go_sem]) rfl ⟨rfl, C0⟩
  · rw [if_neg h12]
    have b12 : 12 ≤ s.size := by omega
    have h12' : ¬ (s.size : Int) < 12 := by omega
    have b8 : (8 : Int) < (s.size : Int) := by omega
    have e8 := at8_eq (s := s) (i := 8) (Nat.lt_of_lt_of_le (by decide) b12)
    by_cases h8 : at8 s 8 = 32
    · rw [if_neg (fun k => k h8)]
      have h8k := h8
      rw [h8] at e8
      have b80 : (8 : Int) ≤ (s.size : Int) := by omega
      have HV : Hid (∀ W, Calls Tryz.prog 19 #[.string (s.extract 0 8)] W fun e w' => e = .returned (.tuple #[.int .i64 (rverL (s.extract 0 8).data.toList).1, .int .i64 (rverL (s.extract 0 8).data.toList).2.1, .bool (rverL (s.extract 0 8).data.toList).2.2]) ∧ Below W.heap.size W w') := fun W => rversion_any _ W (Nat.le_trans (extract_le _ _ _) hs)
      generalize rverL (s.extract 0 8).data.toList = V at *
      obtain ⟨M, m, ok⟩ := V
      simp only at HV ⊢
      clear h8
      cases ok
      · rw [if_pos rfl]
        clear D
        go_enter Tryz.func7, Tryz.ntmps7
        go_wp2_with fail
        refine (HV.out _).mono ?_
        generalize w.alloc (.cells #[.int .i64 0, .string ⟨#[]⟩, .int .i64 0, .slice none 0 0, .slice none 0 0] 26) = w0 at *
        rintro e w1 ⟨rfl, B1⟩
        have hg1 := tblk_below hg0 B1
        have C1 := C0.trans (B1.mono C0.size)
        clear hg0 C0 B1 HV
        have HW := five_cells hg1 (.int .i64 0) (.string ⟨#[]⟩) (.int .i64 0) (.slice none 0 0) (.slice none 0 0)
        have HB := five_below (.int .i64 0) (.string ⟨#[]⟩) (.int .i64 0) (.slice none 0 0) (.slice none 0 0) C1 (Nat.le_refl _)
        have a0 := tblk_cell (i := 0) hg1 rfl
        have z0 := lblk_z (i := 0) hg1
        have a1 := tblk_cell (i := 1) hg1 rfl
        have z1 := lblk_z (i := 1) hg1
        have a2 := tblk_cell (i := 2) hg1 rfl
        have z2 := lblk_z (i := 2) hg1
        have a3 := tblk_cell (i := 3) hg1 rfl
        have z3 := lblk_z (i := 3) hg1
        have a4 := tblk_cell (i := 4) hg1 rfl
        have z4 := lblk_z (i := 4) hg1
        have r0 := tblk_cell (i := 0) HW rfl
        have r1 := tblk_cell (i := 1) HW rfl
        have r2 := tblk_cell (i := 2) HW rfl
        have r3 := tblk_cell (i := 3) HW rfl
        have r4 := tblk_cell (i := 4) HW rfl
        unfold five at r0 r1 r2 r3 r4 HB
        have HB' : Hid _ := HB
        clear HB HW hg1 C1
        go_wp2
        refine bodyPost_ret (v := .tuple #[.agg #[.int .i64 0, .string ⟨#[]⟩, .int .i64 0, .slice none 0 0, .slice none 0 0], .bool false]) (by simp [results, Tryz.results7, go_sem, r0, r1, r2, r3, r4]) rfl ⟨by first | rfl | (rw [← HCD.out]; rfl), HB'.out⟩
      · rw [if_neg (by decide)]
        by_cases hM : M = 1
        · rw [if_neg (fun k => k hM)]
          subst hM
          by_cases hm : 1 < m
          · rw [if_pos hm]
            clear D
            go_enter Tryz.func7, Tryz.ntmps7
            go_wp2_with fail
            refine (HV.out _).mono ?_
            generalize w.alloc (.cells #[.int .i64 0, .string ⟨#[]⟩, .int .i64 0, .slice none 0 0, .slice none 0 0] 26) = w0 at *
            rintro e w1 ⟨rfl, B1⟩
            have hg1 := tblk_below hg0 B1
            have C1 := C0.trans (B1.mono C0.size)
            clear hg0 C0 B1 HV
            have HW := five_cells hg1 (.int .i64 0) (.string ⟨#[]⟩) (.int .i64 0) (.slice none 0 0) (.slice none 0 0)
            have HB := five_below (.int .i64 0) (.string ⟨#[]⟩) (.int .i64 0) (.slice none 0 0) (.slice none 0 0) C1 (Nat.le_refl _)
            have a0 := tblk_cell (i := 0) hg1 rfl
            have z0 := lblk_z (i := 0) hg1
            have a1 := tblk_cell (i := 1) hg1 rfl
            have z1 := lblk_z (i := 1) hg1
            have a2 := tblk_cell (i := 2) hg1 rfl
            have z2 := lblk_z (i := 2) hg1
            have a3 := tblk_cell (i := 3) hg1 rfl
            have z3 := lblk_z (i := 3) hg1
            have a4 := tblk_cell (i := 4) hg1 rfl
            have z4 := lblk_z (i := 4) hg1
            have r0 := tblk_cell (i := 0) HW rfl
            have r1 := tblk_cell (i := 1) HW rfl
            have r2 := tblk_cell (i := 2) HW rfl
            have r3 := tblk_cell (i := 3) HW rfl
            have r4 := tblk_cell (i := 4) HW rfl
            unfold five at r0 r1 r2 r3 r4 HB
            have HB' : Hid _ := HB
            clear HB HW hg1 C1
            go_wp2
            refine bodyPost_ret (v := .tuple #[.agg #[.int .i64 0, .string ⟨#[]⟩, .int .i64 0, .slice none 0 0, .slice none 0 0], .bool false]) (by simp [results, Tryz.results7, go_sem, r0, r1, r2, r3, r4]) rfl ⟨by first | rfl | (rw [← HCD.out]; rfl), HB'.out⟩
          · rw [if_neg hm]
            have b9 : (9 : Int) < (s.size : Int) := by omega
            have b10 : (10 : Int) < (s.size : Int) := by omega
            have b11 : (11 : Int) < (s.size : Int) := by omega
            have e9 := at8_eq (s := s) (i := 9) (Nat.lt_of_lt_of_le (by decide) b12)
            have e10 := at8_eq (s := s) (i := 10) (Nat.lt_of_lt_of_le (by decide) b12)
            have e11 := at8_eq (s := s) (i := 11) (Nat.lt_of_lt_of_le (by decide) b12)
            cases h9 : spanP 48 57 (at8 s 9)
            · rw [if_pos rfl]
              go_enter Tryz.func7, Tryz.ntmps7
              go_wp2_with fail
              refine (HV.out _).mono ?_
              generalize w.alloc (.cells #[.int .i64 0, .string ⟨#[]⟩, .int .i64 0, .slice none 0 0, .slice none 0 0] 26) = w0 at *
              rintro e w1 ⟨rfl, B1⟩
              have hg1 := tblk_below hg0 B1
              have C1 := C0.trans (B1.mono C0.size)
              clear hg0 C0 B1 HV
              go_wp2_with fail
              refine wp_loop_rounds 4 ?_
              rw [rounds_succ]
              go_wp2_with fail
              refine (D.out _ _).mono ?_
              rw [h9]
              rintro e w2 ⟨rfl, rfl⟩
              have HW := five_cells hg1 (.int .i64 0) (.string ⟨#[]⟩) (.int .i64 0) (.slice none 0 0) (.slice none 0 0)
              have HB := five_below (.int .i64 0) (.string ⟨#[]⟩) (.int .i64 0) (.slice none 0 0) (.slice none 0 0) C1 (Nat.le_refl _)
              have a0 := tblk_cell (i := 0) hg1 rfl
              have z0 := lblk_z (i := 0) hg1
              have a1 := tblk_cell (i := 1) hg1 rfl
              have z1 := lblk_z (i := 1) hg1
              have a2 := tblk_cell (i := 2) hg1 rfl
              have z2 := lblk_z (i := 2) hg1
              have a3 := tblk_cell (i := 3) hg1 rfl
              have z3 := lblk_z (i := 3) hg1
              have a4 := tblk_cell (i := 4) hg1 rfl
              have z4 := lblk_z (i := 4) hg1
              have r0 := tblk_cell (i := 0) HW rfl
              have r1 := tblk_cell (i := 1) HW rfl
              have r2 := tblk_cell (i := 2) HW rfl
              have r3 := tblk_cell (i := 3) HW rfl
              have r4 := tblk_cell (i := 4) HW rfl
              unfold five at r0 r1 r2 r3 r4 HB
              have HB' : Hid _ := HB
              clear HB HW hg1 C1
              go_wp2
              refine bodyPost_ret (v := .tuple #[.agg #[.int .i64 0, .string ⟨#[]⟩, .int .i64 0, .slice none 0 0, .slice none 0 0], .bool false]) (by simp [results, Tryz.results7, go_sem, r0, r1, r2, r3, r4]) rfl ⟨by first | rfl | (rw [← HCD.out]; rfl), HB'.out⟩
            · rw [if_neg (by decide)]
              cases h10 : spanP 48 57 (at8 s 10)
              · rw [if_pos rfl]
                go_enter Tryz.func7, Tryz.ntmps7
                go_wp2_with fail
                refine (HV.out _).mono ?_
                generalize w.alloc (.cells #[.int .i64 0, .string ⟨#[]⟩, .int .i64 0, .slice none 0 0, .slice none 0 0] 26) = w0 at *
                rintro e w1 ⟨rfl, B1⟩
                have hg1 := tblk_below hg0 B1
                have C1 := C0.trans (B1.mono C0.size)
                clear hg0 C0 B1 HV
                go_wp2_with fail
                refine wp_loop_rounds 4 ?_
                rw [rounds_succ]
                go_wp2_with fail
                refine (D.out _ _).mono ?_
                rw [h9]
                rintro e w2 ⟨rfl, rfl⟩
                go_wp2_with fail
                rw [rounds_succ]
                go_wp2_with fail
                refine (D.out _ _).mono ?_
                rw [h10]
                rintro e w2 ⟨rfl, rfl⟩
                have HW := five_cells hg1 (.int .i64 0) (.string ⟨#[]⟩) (.int .i64 0) (.slice none 0 0) (.slice none 0 0)
                have HB := five_below (.int .i64 0) (.string ⟨#[]⟩) (.int .i64 0) (.slice none 0 0) (.slice none 0 0) C1 (Nat.le_refl _)
                have a0 := tblk_cell (i := 0) hg1 rfl
                have z0 := lblk_z (i := 0) hg1
                have a1 := tblk_cell (i := 1) hg1 rfl
                have z1 := lblk_z (i := 1) hg1
                have a2 := tblk_cell (i := 2) hg1 rfl
                have z2 := lblk_z (i := 2) hg1
                have a3 := tblk_cell (i := 3) hg1 rfl
                have z3 := lblk_z (i := 3) hg1
                have a4 := tblk_cell (i := 4) hg1 rfl
                have z4 := lblk_z (i := 4) hg1
                have r0 := tblk_cell (i := 0) HW rfl
                have r1 := tblk_cell (i := 1) HW rfl
                have r2 := tblk_cell (i := 2) HW rfl
                have r3 := tblk_cell (i := 3) HW rfl
                have r4 := tblk_cell (i := 4) HW rfl
                unfold five at r0 r1 r2 r3 r4 HB
                have HB' : Hid _ := HB
                clear HB HW hg1 C1
                go_wp2
                refine bodyPost_ret (v := .tuple #[.agg #[.int .i64 0, .string ⟨#[]⟩, .int .i64 0, .slice none 0 0, .slice none 0 0], .bool false]) (by simp [results, Tryz.results7, go_sem, r0, r1, r2, r3, r4]) rfl ⟨by first | rfl | (rw [← HCD.out]; rfl), HB'.out⟩
              · rw [if_neg (by decide)]
                cases h11 : spanP 48 57 (at8 s 11)
                · rw [if_pos rfl]
                  go_enter Tryz.func7, Tryz.ntmps7
                  go_wp2_with fail
                  refine (HV.out _).mono ?_
                  generalize w.alloc (.cells #[.int .i64 0, .string ⟨#[]⟩, .int .i64 0, .slice none 0 0, .slice none 0 0] 26) = w0 at *
                  rintro e w1 ⟨rfl, B1⟩
                  have hg1 := tblk_below hg0 B1
                  have C1 := C0.trans (B1.mono C0.size)
                  clear hg0 C0 B1 HV
                  go_wp2_with fail
                  refine wp_loop_rounds 4 ?_
                  rw [rounds_succ]
                  go_wp2_with fail
                  refine (D.out _ _).mono ?_
                  rw [h9]
                  rintro e w2 ⟨rfl, rfl⟩
                  go_wp2_with fail
                  rw [rounds_succ]
                  go_wp2_with fail
                  refine (D.out _ _).mono ?_
                  rw [h10]
                  rintro e w2 ⟨rfl, rfl⟩
                  go_wp2_with fail
                  rw [rounds_succ]
                  go_wp2_with fail
                  refine (D.out _ _).mono ?_
                  rw [h11]
                  rintro e w2 ⟨rfl, rfl⟩
                  have HW := five_cells hg1 (.int .i64 0) (.string ⟨#[]⟩) (.int .i64 0) (.slice none 0 0) (.slice none 0 0)
                  have HB := five_below (.int .i64 0) (.string ⟨#[]⟩) (.int .i64 0) (.slice none 0 0) (.slice none 0 0) C1 (Nat.le_refl _)
                  have a0 := tblk_cell (i := 0) hg1 rfl
                  have z0 := lblk_z (i := 0) hg1
                  have a1 := tblk_cell (i := 1) hg1 rfl
                  have z1 := lblk_z (i := 1) hg1
                  have a2 := tblk_cell (i := 2) hg1 rfl
                  have z2 := lblk_z (i := 2) hg1
                  have a3 := tblk_cell (i := 3) hg1 rfl
                  have z3 := lblk_z (i := 3) hg1
                  have a4 := tblk_cell (i := 4) hg1 rfl
                  have z4 := lblk_z (i := 4) hg1
                  have r0 := tblk_cell (i := 0) HW rfl
                  have r1 := tblk_cell (i := 1) HW rfl
                  have r2 := tblk_cell (i := 2) HW rfl
                  have r3 := tblk_cell (i := 3) HW rfl
                  have r4 := tblk_cell (i := 4) HW rfl
                  unfold five at r0 r1 r2 r3 r4 HB
                  have HB' : Hid _ := HB
                  clear HB HW hg1 C1
                  go_wp2
                  refine bodyPost_ret (v := .tuple #[.agg #[.int .i64 0, .string ⟨#[]⟩, .int .i64 0, .slice none 0 0, .slice none 0 0], .bool false]) (by simp [results, Tryz.results7, go_sem, r0, r1, r2, r3, r4]) rfl ⟨by first | rfl | (rw [← HCD.out]; rfl), HB'.out⟩
                · rw [if_neg (by decide)]
                  exact absurd ⟨h12, h8k, rfl, rfl, hm, h9, h10, h11⟩ hG
        · rw [if_pos hM]
          clear D
          go_enter Tryz.func7, Tryz.ntmps7
          go_wp2_with fail
          refine (HV.out _).mono ?_
          generalize w.alloc (.cells #[.int .i64 0, .string ⟨#[]⟩, .int .i64 0, .slice none 0 0, .slice none 0 0] 26) = w0 at *
          rintro e w1 ⟨rfl, B1⟩
          have hg1 := tblk_below hg0 B1
          have C1 := C0.trans (B1.mono C0.size)
          clear hg0 C0 B1 HV
          have HW := five_cells hg1 (.int .i64 0) (.string ⟨#[]⟩) (.int .i64 0) (.slice none 0 0) (.slice none 0 0)
          have HB := five_below (.int .i64 0) (.string ⟨#[]⟩) (.int .i64 0) (.slice none 0 0) (.slice none 0 0) C1 (Nat.le_refl _)
          have a0 := tblk_cell (i := 0) hg1 rfl
          have z0 := lblk_z (i := 0) hg1
          have a1 := tblk_cell (i := 1) hg1 rfl
          have z1 := lblk_z (i := 1) hg1
          have a2 := tblk_cell (i := 2) hg1 rfl
          have z2 := lblk_z (i := 2) hg1
          have a3 := tblk_cell (i := 3) hg1 rfl
          have z3 := lblk_z (i := 3) hg1
          have a4 := tblk_cell (i := 4) hg1 rfl
          have z4 := lblk_z (i := 4) hg1
          have r0 := tblk_cell (i := 0) HW rfl
          have r1 := tblk_cell (i := 1) HW rfl
          have r2 := tblk_cell (i := 2) HW rfl
          have r3 := tblk_cell (i := 3) HW rfl
          have r4 := tblk_cell (i := 4) HW rfl
          unfold five at r0 r1 r2 r3 r4 HB
          have HB' : Hid _ := HB
          clear HB HW hg1 C1
          go_wp2
          refine bodyPost_ret (v := .tuple #[.agg #[.int .i64 0, .string ⟨#[]⟩, .int .i64 0, .slice none 0 0, .slice none 0 0], .bool false]) (by simp [results, Tryz.results7, go_sem, r0, r1, r2, r3, r4]) rfl ⟨by first | rfl | (rw [← HCD.out]; rfl), HB'.out⟩
    · rw [if_pos h8]
      have g8 : ¬ ((s[8]'(Nat.lt_of_lt_of_le (by decide) b12)).toNat : Int) = 32 := by rw [e8]; exact h8
      clear h12 h8 D e8
      go_enter Tryz.func7, Tryz.ntmps7
      go_wp2
      refine bodyPost_ret (v := .tuple #[.agg #[.int .i64 0, .string ⟨#[]⟩, .int .i64 0, .slice none 0 0, .slice none 0 0], .bool false]) (by simp [results, Tryz.results7, go_sem]) rfl ⟨rfl, C0⟩
end Go.Proofs.YthbjdbookiejeacGreatDoor
