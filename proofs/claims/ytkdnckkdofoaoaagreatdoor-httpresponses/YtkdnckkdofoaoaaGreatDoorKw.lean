/- Texts that the proof leans on, one behind the other: LrP LrL LrS LrM LrB -/
import Derived.Test.YtkdnckkdofoaoaaGreatDoorKo
/- What the reference's Status answers, plain. -/
namespace Go.Proofs.YtkdnckkdofoaoaaGreatDoor
open Go.RowKit
set_option linter.unusedVariables false

def noS : St := ⟨0, ⟨#[]⟩, 0, false⟩
def at8 (s : ByteArray) (i : Nat) : Int := ((s.data.toList.getD i 0).toNat : Int)
theorem at8_eq {s : ByteArray} {i : Nat} (h : i < s.size) : ((s[i]'h).toNat : Int) = at8 s i := by
  unfold at8
  rw [List.getD_eq_getElem?_getD, List.getElem?_eq_getElem (show i < s.data.toList.length from h)]
  rfl
def rsn (s : ByteArray) : ByteArray := if 12 < s.size then s.extract 13 s.size else ⟨#[]⟩
def codeR (s : ByteArray) : Int := 100 * (at8 s 9 - 48) + 10 * (at8 s 10 - 48) + (at8 s 11 - 48)
/-- What the reference's Status answers. -/
def refS (s : ByteArray) : St :=
  if s.size < 12 then noS else if ¬ at8 s 8 = 32 then noS else
  if (rverL (s.extract 0 8).data.toList).2.2 = false then noS else if ¬ (rverL (s.extract 0 8).data.toList).1 = 1 then noS else if 1 < (rverL (s.extract 0 8).data.toList).2.1 then noS else
  if spanP 48 57 (at8 s 9) = false then noS else if spanP 48 57 (at8 s 10) = false then noS else if spanP 48 57 (at8 s 11) = false then noS else
  if 12 < s.size ∧ ¬ at8 s 12 = 32 then noS else if codeR s < 100 then noS else if 599 < codeR s then noS else if allB valP (rsn s).data.toList = false then noS else if 100 < (rsn s).size then noS else
  ⟨codeR s, rsn s, (rverL (s.extract 0 8).data.toList).2.1, true⟩
theorem span_of {c : Int} (h : spanP 48 57 c = true) : 48 ≤ c ∧ c ≤ 57 := by unfold spanP at h; simpa using h
end Go.Proofs.YtkdnckkdofoaoaaGreatDoor

/- The reference's Status: a line longer than twelve bytes. -/
namespace Go.Proofs.YtkdnckkdofoaoaaGreatDoor
open Go.RowKit
set_option linter.unusedVariables false

set_option maxRecDepth 100000 in
set_option maxHeartbeats 8000000 in
theorem rstat_long (s : ByteArray) (m : Int) (w : World) (hs : s.size ≤ maxLen) (h12 : ¬ s.size < 12) (h8 : at8 s 8 = 32) (hv : rverL (s.extract 0 8).data.toList = (1, m, true)) (hm : ¬ 1 < m) (h9 : spanP 48 57 (at8 s 9) = true) (h10 : spanP 48 57 (at8 s 10) = true) (h11 : spanP 48 57 (at8 s 11) = true) (hz : 12 < s.size) : Calls Tryz.prog 47 #[.string s] w fun e w' => e = .returned (.tuple #[respV (refS s), .bool (refS s).ok]) ∧ Below w.heap.size w w' := by
  have D : Hid (∀ c W, Calls Tryz.prog 82 #[.int .u8 c] W fun e w' => e = .returned (.bool (spanP 48 57 c)) ∧ w' = W) := fun c W => rdig_any c W
  have hg0 := tblk_new w (.cells #[.int .i64 0, .string ⟨#[]⟩, .int .i64 0, .slice none 0 0, .slice none 0 0] 33)
  have C0 : Below w.heap.size w (w.alloc (.cells #[.int .i64 0, .string ⟨#[]⟩, .int .i64 0, .slice none 0 0, .slice none 0 0] 33)) := (Below.refl _ _).alloc (Nat.le_refl _) _
  unfold maxLen at hs
  have b12 : 12 ≤ s.size := by omega
  have h12' : ¬ (s.size : Int) < 12 := by omega
  have b8 : (8 : Int) < (s.size : Int) := by omega
  have e8 := at8_eq (s := s) (i := 8) (Nat.lt_of_lt_of_le (by decide) b12)
  rw [h8] at e8
  have b80 : (8 : Int) ≤ (s.size : Int) := by omega
  have HV : Hid (∀ W, Calls Tryz.prog 89 #[.string (s.extract 0 8)] W fun e w' => e = .returned (.tuple #[.int .i64 1, .int .i64 m, .bool true]) ∧ Below W.heap.size W w') := fun W => by
    have k := rversion_any (s.extract 0 8) W (Nat.le_trans (extract_le _ _ _) hs)
    rw [hv] at k
    exact k
  unfold refS
  rw [if_neg h12, if_neg (fun k => k h8), hv]
  simp only
  rw [if_neg (by decide), if_neg (fun k => k trivial), if_neg hm, if_neg (by rw [h9]; decide), if_neg (by rw [h10]; decide), if_neg (by rw [h11]; decide)]
  clear h8 hv h12
  have b9 : (9 : Int) < (s.size : Int) := by omega
  have b10 : (10 : Int) < (s.size : Int) := by omega
  have b11 : (11 : Int) < (s.size : Int) := by omega
  have e9 := at8_eq (s := s) (i := 9) (Nat.lt_of_lt_of_le (by decide) b12)
  have e10 := at8_eq (s := s) (i := 10) (Nat.lt_of_lt_of_le (by decide) b12)
  have e11 := at8_eq (s := s) (i := 11) (Nat.lt_of_lt_of_le (by decide) b12)
  have hmB : decide ((1 : Int) < m) = false := by simp; omega
  clear hm
  have s9 := span_of h9
  have s10 := span_of h10
  have s11 := span_of h11
  have hcR : codeR s = 100 * (at8 s 9 - 48) + 10 * (at8 s 10 - 48) + (at8 s 11 - 48) := rfl
  rw [hcR]
  clear hcR
  generalize at8 s 9 = x9 at *
  generalize at8 s 10 = x10 at *
  generalize at8 s 11 = x11 at *
  have u9 : IntKind.u8.wrap (x9 - 48) = x9 - 48 := by simp [IntKind.wrap, IntKind.bits, IntKind.signed]; omega
  have u10 : IntKind.u8.wrap (x10 - 48) = x10 - 48 := by simp [IntKind.wrap, IntKind.bits, IntKind.signed]; omega
  have u11 : IntKind.u8.wrap (x11 - 48) = x11 - 48 := by simp [IntKind.wrap, IntKind.bits, IntKind.signed]; omega
  have v9 : IntKind.i64.wrap (x9 - 48) = x9 - 48 := by simp [IntKind.wrap, IntKind.bits, IntKind.signed]; omega
  have v10 : IntKind.i64.wrap (x10 - 48) = x10 - 48 := by simp [IntKind.wrap, IntKind.bits, IntKind.signed]; omega
  have v11 : IntKind.i64.wrap (x11 - 48) = x11 - 48 := by simp [IntKind.wrap, IntKind.bits, IntKind.signed]; omega
  have m9 : IntKind.i64.wrap (100 * (x9 - 48)) = 100 * (x9 - 48) := by simp [IntKind.wrap, IntKind.bits, IntKind.signed]; omega
  have m10 : IntKind.i64.wrap (10 * (x10 - 48)) = 10 * (x10 - 48) := by simp [IntKind.wrap, IntKind.bits, IntKind.signed]; omega
  have p1 : IntKind.i64.wrap (100 * (x9 - 48) + 10 * (x10 - 48)) = 100 * (x9 - 48) + 10 * (x10 - 48) := by simp [IntKind.wrap, IntKind.bits, IntKind.signed]; omega
  have p2 : IntKind.i64.wrap (100 * (x9 - 48) + 10 * (x10 - 48) + (x11 - 48)) = 100 * (x9 - 48) + 10 * (x10 - 48) + (x11 - 48) := by simp [IntKind.wrap, IntKind.bits, IntKind.signed]; omega
  clear s9 s10 s11
  have hz' : (12 : Int) < (s.size : Int) := by omega
  have b13 : (13 : Int) ≤ (s.size : Int) := by omega
  have er : rsn s = s.extract 13 s.size := by unfold rsn; rw [if_pos hz]
  have e12 := at8_eq (s := s) (i := 12) hz
  by_cases h32 : at8 s 12 = 32
  · rw [if_neg (fun k => k.2 h32), er]
    rw [h32] at e12
    have hrz := extract_le s 13 s.size
    clear er h32
    have HL : Hid (∀ W, Calls Tryz.prog 90 #[.string (s.extract 13 s.size)] W fun e w' => e = .returned (.bool (allB valP (s.extract 13 s.size : ByteArray).data.toList)) ∧ w' = W) := fun W => rValue_any _ W (Nat.le_trans hrz hs)
    by_cases hlo : 100 * (x9 - 48) + 10 * (x10 - 48) + (x11 - 48) < 100
    · rw [if_pos hlo]
      go_enter Tryz.func47, Tryz.ntmps47
      go_wp2_with fail
      refine (HV.out _).mono ?_
      generalize w.alloc (.cells #[.int .i64 0, .string ⟨#[]⟩, .int .i64 0, .slice none 0 0, .slice none 0 0] 33) = w0 at *
      rintro e w1 ⟨rfl, B1⟩
      have hg1 := tblk_below hg0 B1
      have C1 := C0.trans (B1.mono C0.size)
      clear hg0 C0 B1 HV
      go_wp2_with fail
      refine wp_loop_rounds 4 ?_
      rw [rounds_succ]
      go_wp2_with fail
      refine (D.out _ _).mono ?_
      rw [h9]
      rintro e w2 ⟨rfl, rfl⟩
      go_wp2_with fail
      rw [rounds_succ]
      go_wp2_with fail
      refine (D.out _ _).mono ?_
      rw [h10]
      rintro e w2 ⟨rfl, rfl⟩
      go_wp2_with fail
      rw [rounds_succ]
      go_wp2_with fail
      refine (D.out _ _).mono ?_
      rw [h11]
      rintro e w2 ⟨rfl, rfl⟩
      go_wp2_with fail
      rw [rounds_succ]
      go_wp2_with fail
      go_quiet (fail)
      have hg2 : (w2.drewN nq).heap[w.heap.size]? = _ := hg1
      have C2 := C1.trans (lbelow_drewN w.heap.size w2 nq)
      clear hg1 C1
      generalize w2.drewN nq = w3 at *
      clear u9 u10 u11 v9 v10 v11 m9 m10 p1 p2 e8 e9 e10 e11 h9 h10 h11 b9 b10 b11 b8 b80 h12' D hs b12
      generalize hcd : 100 * (x9 - 48) + 10 * (x10 - 48) + (x11 - 48) = cdv at *
      have HCD : Hid (100 * (x9 - 48) + 10 * (x10 - 48) + (x11 - 48) = cdv) := hcd
      clear hcd
      generalize 100 * (x9 - 48) + 10 * (x10 - 48) = cd2
      have HW := five_cells hg2 (.int .i64 0) (.string ⟨#[]⟩) (.int .i64 0) (.slice none 0 0) (.slice none 0 0)
      have HB := five_below (.int .i64 0) (.string ⟨#[]⟩) (.int .i64 0) (.slice none 0 0) (.slice none 0 0) C2 (Nat.le_refl _)
      have a0 := tblk_cell (i := 0) hg2 rfl
      have z0 := lblk_z (i := 0) hg2
      have a1 := tblk_cell (i := 1) hg2 rfl
      have z1 := lblk_z (i := 1) hg2
      have a2 := tblk_cell (i := 2) hg2 rfl
      have z2 := lblk_z (i := 2) hg2
      have a3 := tblk_cell (i := 3) hg2 rfl
      have z3 := lblk_z (i := 3) hg2
      have a4 := tblk_cell (i := 4) hg2 rfl
      have z4 := lblk_z (i := 4) hg2
      have r0 := tblk_cell (i := 0) HW rfl
      have r1 := tblk_cell (i := 1) HW rfl
      have r2 := tblk_cell (i := 2) HW rfl
      have r3 := tblk_cell (i := 3) HW rfl
      have r4 := tblk_cell (i := 4) HW rfl
      unfold five at r0 r1 r2 r3 r4 HB
      have HB' : Hid _ := HB
      clear HB HW hg2 C2
      go_wp2
      refine bodyPost_ret (v := .tuple #[.agg #[.int .i64 0, .string ⟨#[]⟩, .int .i64 0, .slice none 0 0, .slice none 0 0], .bool false]) (by simp [results, Tryz.results47, go_sem, r0, r1, r2, r3, r4]) rfl ⟨by first | rfl | (rw [← HCD.out]; rfl), HB'.out⟩
    · rw [if_neg hlo]
      have hloB : decide (100 * (x9 - 48) + 10 * (x10 - 48) + (x11 - 48) < 100) = false := by simp; omega
      clear hlo
      by_cases hhi : 599 < 100 * (x9 - 48) + 10 * (x10 - 48) + (x11 - 48)
      · rw [if_pos hhi]
        go_enter Tryz.func47, Tryz.ntmps47
        go_wp2_with fail
        refine (HV.out _).mono ?_
        generalize w.alloc (.cells #[.int .i64 0, .string ⟨#[]⟩, .int .i64 0, .slice none 0 0, .slice none 0 0] 33) = w0 at *
        rintro e w1 ⟨rfl, B1⟩
        have hg1 := tblk_below hg0 B1
        have C1 := C0.trans (B1.mono C0.size)
        clear hg0 C0 B1 HV
        go_wp2_with fail
        refine wp_loop_rounds 4 ?_
        rw [rounds_succ]
        go_wp2_with fail
        refine (D.out _ _).mono ?_
        rw [h9]
        rintro e w2 ⟨rfl, rfl⟩
        go_wp2_with fail
        rw [rounds_succ]
        go_wp2_with fail
        refine (D.out _ _).mono ?_
        rw [h10]
        rintro e w2 ⟨rfl, rfl⟩
        go_wp2_with fail
        rw [rounds_succ]
        go_wp2_with fail
        refine (D.out _ _).mono ?_
        rw [h11]
        rintro e w2 ⟨rfl, rfl⟩
        go_wp2_with fail
        rw [rounds_succ]
        go_wp2_with fail
        go_quiet (fail)
        have hg2 : (w2.drewN nq).heap[w.heap.size]? = _ := hg1
        have C2 := C1.trans (lbelow_drewN w.heap.size w2 nq)
        clear hg1 C1
        generalize w2.drewN nq = w3 at *
        clear u9 u10 u11 v9 v10 v11 m9 m10 p1 p2 e8 e9 e10 e11 h9 h10 h11 b9 b10 b11 b8 b80 h12' D hs b12
        generalize hcd : 100 * (x9 - 48) + 10 * (x10 - 48) + (x11 - 48) = cdv at *
        have HCD : Hid (100 * (x9 - 48) + 10 * (x10 - 48) + (x11 - 48) = cdv) := hcd
        clear hcd
        generalize 100 * (x9 - 48) + 10 * (x10 - 48) = cd2
        have HW := five_cells hg2 (.int .i64 0) (.string ⟨#[]⟩) (.int .i64 0) (.slice none 0 0) (.slice none 0 0)
        have HB := five_below (.int .i64 0) (.string ⟨#[]⟩) (.int .i64 0) (.slice none 0 0) (.slice none 0 0) C2 (Nat.le_refl _)
        have a0 := tblk_cell (i := 0) hg2 rfl
        have z0 := lblk_z (i := 0) hg2
        have a1 := tblk_cell (i := 1) hg2 rfl
        have z1 := lblk_z (i := 1) hg2
        have a2 := tblk_cell (i := 2) hg2 rfl
        have z2 := lblk_z (i := 2) hg2
        have a3 := tblk_cell (i := 3) hg2 rfl
        have z3 := lblk_z (i := 3) hg2
        have a4 := tblk_cell (i := 4) hg2 rfl
        have z4 := lblk_z (i := 4) hg2
        have r0 := tblk_cell (i := 0) HW rfl
        have r1 := tblk_cell (i := 1) HW rfl
        have r2 := tblk_cell (i := 2) HW rfl
        have r3 := tblk_cell (i := 3) HW rfl
        have r4 := tblk_cell (i := 4) HW rfl
        unfold five at r0 r1 r2 r3 r4 HB
        have HB' : Hid _ := HB
        clear HB HW hg2 C2
        go_wp2
        refine bodyPost_ret (v := .tuple #[.agg #[.int .i64 0, .string ⟨#[]⟩, .int .i64 0, .slice none 0 0, .slice none 0 0], .bool false]) (by simp [results, Tryz.results47, go_sem, r0, r1, r2, r3, r4]) rfl ⟨by first | rfl | (rw [← HCD.out]; rfl), HB'.out⟩
      · rw [if_neg hhi]
        have hhiB : decide (599 < 100 * (x9 - 48) + 10 * (x10 - 48) + (x11 - 48)) = false := by simp; omega
        clear hhi
        cases hv : allB valP (s.extract 13 s.size : ByteArray).data.toList
        · rw [if_pos rfl]
          rw [hv] at HL
          go_enter Tryz.func47, Tryz.ntmps47
          go_wp2_with fail
          refine (HV.out _).mono ?_
          generalize w.alloc (.cells #[.int .i64 0, .string ⟨#[]⟩, .int .i64 0, .slice none 0 0, .slice none 0 0] 33) = w0 at *
          rintro e w1 ⟨rfl, B1⟩
          have hg1 := tblk_below hg0 B1
          have C1 := C0.trans (B1.mono C0.size)
          clear hg0 C0 B1 HV
          go_wp2_with fail
          refine wp_loop_rounds 4 ?_
          rw [rounds_succ]
          go_wp2_with fail
          refine (D.out _ _).mono ?_
          rw [h9]
          rintro e w2 ⟨rfl, rfl⟩
          go_wp2_with fail
          rw [rounds_succ]
          go_wp2_with fail
          refine (D.out _ _).mono ?_
          rw [h10]
          rintro e w2 ⟨rfl, rfl⟩
          go_wp2_with fail
          rw [rounds_succ]
          go_wp2_with fail
          refine (D.out _ _).mono ?_
          rw [h11]
          rintro e w2 ⟨rfl, rfl⟩
          go_wp2_with fail
          rw [rounds_succ]
          go_wp2_with fail
          go_quiet (fail)
          have hg2 : (w2.drewN nq).heap[w.heap.size]? = _ := hg1
          have C2 := C1.trans (lbelow_drewN w.heap.size w2 nq)
          clear hg1 C1
          generalize w2.drewN nq = w3 at *
          clear u9 u10 u11 v9 v10 v11 m9 m10 p1 p2 e8 e9 e10 e11 h9 h10 h11 b9 b10 b11 b8 b80 h12' D hs b12
          generalize hcd : 100 * (x9 - 48) + 10 * (x10 - 48) + (x11 - 48) = cdv at *
          have HCD : Hid (100 * (x9 - 48) + 10 * (x10 - 48) + (x11 - 48) = cdv) := hcd
          clear hcd
          generalize 100 * (x9 - 48) + 10 * (x10 - 48) = cd2
          go_wp2_with fail
          refine (HL.out _).mono ?_
          rintro e w4 ⟨rfl, rfl⟩
          have HW := five_cells hg2 (.int .i64 0) (.string ⟨#[]⟩) (.int .i64 0) (.slice none 0 0) (.slice none 0 0)
          have HB := five_below (.int .i64 0) (.string ⟨#[]⟩) (.int .i64 0) (.slice none 0 0) (.slice none 0 0) C2 (Nat.le_refl _)
          have a0 := tblk_cell (i := 0) hg2 rfl
          have z0 := lblk_z (i := 0) hg2
          have a1 := tblk_cell (i := 1) hg2 rfl
          have z1 := lblk_z (i := 1) hg2
          have a2 := tblk_cell (i := 2) hg2 rfl
          have z2 := lblk_z (i := 2) hg2
          have a3 := tblk_cell (i := 3) hg2 rfl
          have z3 := lblk_z (i := 3) hg2
          have a4 := tblk_cell (i := 4) hg2 rfl
          have z4 := lblk_z (i := 4) hg2
          have r0 := tblk_cell (i := 0) HW rfl
          have r1 := tblk_cell (i := 1) HW rfl
          have r2 := tblk_cell (i := 2) HW rfl
          have r3 := tblk_cell (i := 3) HW rfl
          have r4 := tblk_cell (i := 4) HW rfl
          unfold five at r0 r1 r2 r3 r4 HB
          have HB' : Hid _ := HB
          clear HB HW hg2 C2
          go_wp2
          refine bodyPost_ret (v := .tuple #[.agg #[.int .i64 0, .string ⟨#[]⟩, .int .i64 0, .slice none 0 0, .slice none 0 0], .bool false]) (by simp [results, Tryz.results47, go_sem, r0, r1, r2, r3, r4]) rfl ⟨by first | rfl | (rw [← HCD.out]; rfl), HB'.out⟩
        · rw [if_neg (by decide)]
          rw [hv] at HL
          by_cases hl : 100 < (s.extract 13 s.size : ByteArray).size
          · rw [if_pos hl]
            have hl' : (100 : Int) < ((s.size - 13 : Nat) : Int) := by
              have k : (s.extract 13 s.size : ByteArray).size = s.size - 13 := by simp
              rw [k] at hl
              omega
            clear hl
            go_enter Tryz.func47, Tryz.ntmps47
            go_wp2_with fail
            refine (HV.out _).mono ?_
            generalize w.alloc (.cells #[.int .i64 0, .string ⟨#[]⟩, .int .i64 0, .slice none 0 0, .slice none 0 0] 33) = w0 at *
            rintro e w1 ⟨rfl, B1⟩
            have hg1 := tblk_below hg0 B1
            have C1 := C0.trans (B1.mono C0.size)
            clear hg0 C0 B1 HV
            go_wp2_with fail
            refine wp_loop_rounds 4 ?_
            rw [rounds_succ]
            go_wp2_with fail
            refine (D.out _ _).mono ?_
            rw [h9]
            rintro e w2 ⟨rfl, rfl⟩
            go_wp2_with fail
            rw [rounds_succ]
            go_wp2_with fail
            refine (D.out _ _).mono ?_
            rw [h10]
            rintro e w2 ⟨rfl, rfl⟩
            go_wp2_with fail
            rw [rounds_succ]
            go_wp2_with fail
            refine (D.out _ _).mono ?_
            rw [h11]
            rintro e w2 ⟨rfl, rfl⟩
            go_wp2_with fail
            rw [rounds_succ]
            go_wp2_with fail
            go_quiet (fail)
            have hg2 : (w2.drewN nq).heap[w.heap.size]? = _ := hg1
            have C2 := C1.trans (lbelow_drewN w.heap.size w2 nq)
            clear hg1 C1
            generalize w2.drewN nq = w3 at *
            clear u9 u10 u11 v9 v10 v11 m9 m10 p1 p2 e8 e9 e10 e11 h9 h10 h11 b9 b10 b11 b8 b80 h12' D hs b12
            generalize hcd : 100 * (x9 - 48) + 10 * (x10 - 48) + (x11 - 48) = cdv at *
            have HCD : Hid (100 * (x9 - 48) + 10 * (x10 - 48) + (x11 - 48) = cdv) := hcd
            clear hcd
            generalize 100 * (x9 - 48) + 10 * (x10 - 48) = cd2
            go_wp2_with fail
            refine (HL.out _).mono ?_
            rintro e w4 ⟨rfl, rfl⟩
            have HW := five_cells hg2 (.int .i64 0) (.string ⟨#[]⟩) (.int .i64 0) (.slice none 0 0) (.slice none 0 0)
            have HB := five_below (.int .i64 0) (.string ⟨#[]⟩) (.int .i64 0) (.slice none 0 0) (.slice none 0 0) C2 (Nat.le_refl _)
            have a0 := tblk_cell (i := 0) hg2 rfl
            have z0 := lblk_z (i := 0) hg2
            have a1 := tblk_cell (i := 1) hg2 rfl
            have z1 := lblk_z (i := 1) hg2
            have a2 := tblk_cell (i := 2) hg2 rfl
            have z2 := lblk_z (i := 2) hg2
            have a3 := tblk_cell (i := 3) hg2 rfl
            have z3 := lblk_z (i := 3) hg2
            have a4 := tblk_cell (i := 4) hg2 rfl
            have z4 := lblk_z (i := 4) hg2
            have r0 := tblk_cell (i := 0) HW rfl
            have r1 := tblk_cell (i := 1) HW rfl
            have r2 := tblk_cell (i := 2) HW rfl
            have r3 := tblk_cell (i := 3) HW rfl
            have r4 := tblk_cell (i := 4) HW rfl
            unfold five at r0 r1 r2 r3 r4 HB
            have HB' : Hid _ := HB
            clear HB HW hg2 C2
            go_wp2
            refine bodyPost_ret (v := .tuple #[.agg #[.int .i64 0, .string ⟨#[]⟩, .int .i64 0, .slice none 0 0, .slice none 0 0], .bool false]) (by simp [results, Tryz.results47, go_sem, r0, r1, r2, r3, r4]) rfl ⟨by first | rfl | (rw [← HCD.out]; rfl), HB'.out⟩
          · rw [if_neg hl]
            have hl' : decide ((100 : Int) < ((s.size - 13 : Nat) : Int)) = false := by
              have k : (s.extract 13 s.size : ByteArray).size = s.size - 13 := by simp
              rw [k] at hl
              exact decide_eq_false (by omega)
            clear hl
            go_enter Tryz.func47, Tryz.ntmps47
            go_wp2_with fail
            refine (HV.out _).mono ?_
            generalize w.alloc (.cells #[.int .i64 0, .string ⟨#[]⟩, .int .i64 0, .slice none 0 0, .slice none 0 0] 33) = w0 at *
            rintro e w1 ⟨rfl, B1⟩
            have hg1 := tblk_below hg0 B1
            have C1 := C0.trans (B1.mono C0.size)
            clear hg0 C0 B1 HV
            go_wp2_with fail
            refine wp_loop_rounds 4 ?_
            rw [rounds_succ]
            go_wp2_with fail
            refine (D.out _ _).mono ?_
            rw [h9]
            rintro e w2 ⟨rfl, rfl⟩
            go_wp2_with fail
            rw [rounds_succ]
            go_wp2_with fail
            refine (D.out _ _).mono ?_
            rw [h10]
            rintro e w2 ⟨rfl, rfl⟩
            go_wp2_with fail
            rw [rounds_succ]
            go_wp2_with fail
            refine (D.out _ _).mono ?_
            rw [h11]
            rintro e w2 ⟨rfl, rfl⟩
            go_wp2_with fail
            rw [rounds_succ]
            go_wp2_with fail
            go_quiet (fail)
            have hg2 : (w2.drewN nq).heap[w.heap.size]? = _ := hg1
            have C2 := C1.trans (lbelow_drewN w.heap.size w2 nq)
            clear hg1 C1
            generalize w2.drewN nq = w3 at *
            clear u9 u10 u11 v9 v10 v11 m9 m10 p1 p2 e8 e9 e10 e11 h9 h10 h11 b9 b10 b11 b8 b80 h12' D hs b12
            generalize hcd : 100 * (x9 - 48) + 10 * (x10 - 48) + (x11 - 48) = cdv at *
            have HCD : Hid (100 * (x9 - 48) + 10 * (x10 - 48) + (x11 - 48) = cdv) := hcd
            clear hcd
            generalize 100 * (x9 - 48) + 10 * (x10 - 48) = cd2
            go_wp2_with fail
            refine (HL.out _).mono ?_
            rintro e w4 ⟨rfl, rfl⟩
            have HW := five_cells hg2 (.int .i64 cdv) (.string (s.extract 13 s.size)) (.int .i64 m) (.slice none 0 0) (.slice none 0 0)
            have HB := five_below (.int .i64 cdv) (.string (s.extract 13 s.size)) (.int .i64 m) (.slice none 0 0) (.slice none 0 0) C2 (Nat.le_refl _)
            have a0 := tblk_cell (i := 0) hg2 rfl
            have z0 := lblk_z (i := 0) hg2
            have a1 := tblk_cell (i := 1) hg2 rfl
            have z1 := lblk_z (i := 1) hg2
            have a2 := tblk_cell (i := 2) hg2 rfl
            have z2 := lblk_z (i := 2) hg2
            have a3 := tblk_cell (i := 3) hg2 rfl
            have z3 := lblk_z (i := 3) hg2
            have a4 := tblk_cell (i := 4) hg2 rfl
            have z4 := lblk_z (i := 4) hg2
            have r0 := tblk_cell (i := 0) HW rfl
            have r1 := tblk_cell (i := 1) HW rfl
            have r2 := tblk_cell (i := 2) HW rfl
            have r3 := tblk_cell (i := 3) HW rfl
            have r4 := tblk_cell (i := 4) HW rfl
            unfold five at r0 r1 r2 r3 r4 HB
            have HB' : Hid _ := HB
            clear HB HW hg2 C2
            go_wp2
            refine bodyPost_ret (v := .tuple #[.agg #[.int .i64 cdv, .string (s.extract 13 s.size), .int .i64 m, .slice none 0 0, .slice none 0 0], .bool true]) (by simp [results, Tryz.results47, go_sem, r0, r1, r2, r3, r4]) rfl ⟨by first | rfl | (rw [← HCD.out]; rfl), HB'.out⟩
  · rw [if_pos ⟨hz, h32⟩]
    have g12 : (((s[12]'hz).toNat : Int) != 32) = true := by rw [e12]; simpa using h32
    clear e12 er h32
    go_enter Tryz.func47, Tryz.ntmps47
    go_wp2_with fail
    refine (HV.out _).mono ?_
    generalize w.alloc (.cells #[.int .i64 0, .string ⟨#[]⟩, .int .i64 0, .slice none 0 0, .slice none 0 0] 33) = w0 at *
    rintro e w1 ⟨rfl, B1⟩
    have hg1 := tblk_below hg0 B1
    have C1 := C0.trans (B1.mono C0.size)
    clear hg0 C0 B1 HV
    go_wp2_with fail
    refine wp_loop_rounds 4 ?_
    rw [rounds_succ]
    go_wp2_with fail
    refine (D.out _ _).mono ?_
    rw [h9]
    rintro e w2 ⟨rfl, rfl⟩
    go_wp2_with fail
    rw [rounds_succ]
    go_wp2_with fail
    refine (D.out _ _).mono ?_
    rw [h10]
    rintro e w2 ⟨rfl, rfl⟩
    go_wp2_with fail
    rw [rounds_succ]
    go_wp2_with fail
    refine (D.out _ _).mono ?_
    rw [h11]
    rintro e w2 ⟨rfl, rfl⟩
    go_wp2_with fail
    rw [rounds_succ]
    go_wp2_with fail
    go_quiet (fail)
    have hg2 : (w2.drewN nq).heap[w.heap.size]? = _ := hg1
    have C2 := C1.trans (lbelow_drewN w.heap.size w2 nq)
    clear hg1 C1
    generalize w2.drewN nq = w3 at *
    clear u9 u10 u11 v9 v10 v11 m9 m10 p1 p2 e8 e9 e10 e11 h9 h10 h11 b9 b10 b11 b8 b80 h12' D hs b12
    generalize hcd : 100 * (x9 - 48) + 10 * (x10 - 48) + (x11 - 48) = cdv at *
    have HCD : Hid (100 * (x9 - 48) + 10 * (x10 - 48) + (x11 - 48) = cdv) := hcd
    clear hcd
    generalize 100 * (x9 - 48) + 10 * (x10 - 48) = cd2
    have HW := five_cells hg2 (.int .i64 0) (.string ⟨#[]⟩) (.int .i64 0) (.slice none 0 0) (.slice none 0 0)
    have HB := five_below (.int .i64 0) (.string ⟨#[]⟩) (.int .i64 0) (.slice none 0 0) (.slice none 0 0) C2 (Nat.le_refl _)
    have a0 := tblk_cell (i := 0) hg2 rfl
    have z0 := lblk_z (i := 0) hg2
    have a1 := tblk_cell (i := 1) hg2 rfl
    have z1 := lblk_z (i := 1) hg2
    have a2 := tblk_cell (i := 2) hg2 rfl
    have z2 := lblk_z (i := 2) hg2
    have a3 := tblk_cell (i := 3) hg2 rfl
    have z3 := lblk_z (i := 3) hg2
    have a4 := tblk_cell (i := 4) hg2 rfl
    have z4 := lblk_z (i := 4) hg2
    have r0 := tblk_cell (i := 0) HW rfl
    have r1 := tblk_cell (i := 1) HW rfl
    have r2 := tblk_cell (i := 2) HW rfl
    have r3 := tblk_cell (i := 3) HW rfl
    have r4 := tblk_cell (i := 4) HW rfl
    unfold five at r0 r1 r2 r3 r4 HB
    have HB' : Hid _ := HB
    clear HB HW hg2 C2
    go_wp2
    refine bodyPost_ret (v := .tuple #[.agg #[.int .i64 0, .string ⟨#[]⟩, .int .i64 0, .slice none 0 0, .slice none 0 0], .bool false]) (by simp [results, Tryz.results47, go_sem, r0, r1, r2, r3, r4]) rfl ⟨by first | rfl | (rw [← HCD.out]; rfl), HB'.out⟩
end Go.Proofs.YtkdnckkdofoaoaaGreatDoor

/- The reference's Status: a line of twelve bytes. -/
namespace Go.Proofs.YtkdnckkdofoaoaaGreatDoor
open Go.RowKit
set_option linter.unusedVariables false

set_option maxRecDepth 100000 in
set_option maxHeartbeats 8000000 in
theorem rstat_short (s : ByteArray) (m : Int) (w : World) (hs : s.size ≤ maxLen) (h12 : ¬ s.size < 12) (h8 : at8 s 8 = 32) (hv : rverL (s.extract 0 8).data.toList = (1, m, true)) (hm : ¬ 1 < m) (h9 : spanP 48 57 (at8 s 9) = true) (h10 : spanP 48 57 (at8 s 10) = true) (h11 : spanP 48 57 (at8 s 11) = true) (hz : ¬ 12 < s.size) : Calls Tryz.prog 47 #[.string s] w fun e w' => e = .returned (.tuple #[respV (refS s), .bool (refS s).ok]) ∧ Below w.heap.size w w' := by
  have D : Hid (∀ c W, Calls Tryz.prog 82 #[.int .u8 c] W fun e w' => e = .returned (.bool (spanP 48 57 c)) ∧ w' = W) := fun c W => rdig_any c W
  have hg0 := tblk_new w (.cells #[.int .i64 0, .string ⟨#[]⟩, .int .i64 0, .slice none 0 0, .slice none 0 0] 33)
  have C0 : Below w.heap.size w (w.alloc (.cells #[.int .i64 0, .string ⟨#[]⟩, .int .i64 0, .slice none 0 0, .slice none 0 0] 33)) := (Below.refl _ _).alloc (Nat.le_refl _) _
  unfold maxLen at hs
  have b12 : 12 ≤ s.size := by omega
  have h12' : ¬ (s.size : Int) < 12 := by omega
  have b8 : (8 : Int) < (s.size : Int) := by omega
  have e8 := at8_eq (s := s) (i := 8) (Nat.lt_of_lt_of_le (by decide) b12)
  rw [h8] at e8
  have b80 : (8 : Int) ≤ (s.size : Int) := by omega
  have HV : Hid (∀ W, Calls Tryz.prog 89 #[.string (s.extract 0 8)] W fun e w' => e = .returned (.tuple #[.int .i64 1, .int .i64 m, .bool true]) ∧ Below W.heap.size W w') := fun W => by
    have k := rversion_any (s.extract 0 8) W (Nat.le_trans (extract_le _ _ _) hs)
    rw [hv] at k
    exact k
  unfold refS
  rw [if_neg h12, if_neg (fun k => k h8), hv]
  simp only
  rw [if_neg (by decide), if_neg (fun k => k trivial), if_neg hm, if_neg (by rw [h9]; decide), if_neg (by rw [h10]; decide), if_neg (by rw [h11]; decide)]
  clear h8 hv h12
  have b9 : (9 : Int) < (s.size : Int) := by omega
  have b10 : (10 : Int) < (s.size : Int) := by omega
  have b11 : (11 : Int) < (s.size : Int) := by omega
  have e9 := at8_eq (s := s) (i := 9) (Nat.lt_of_lt_of_le (by decide) b12)
  have e10 := at8_eq (s := s) (i := 10) (Nat.lt_of_lt_of_le (by decide) b12)
  have e11 := at8_eq (s := s) (i := 11) (Nat.lt_of_lt_of_le (by decide) b12)
  have hmB : decide ((1 : Int) < m) = false := by simp; omega
  clear hm
  have s9 := span_of h9
  have s10 := span_of h10
  have s11 := span_of h11
  have hcR : codeR s = 100 * (at8 s 9 - 48) + 10 * (at8 s 10 - 48) + (at8 s 11 - 48) := rfl
  rw [hcR]
  clear hcR
  generalize at8 s 9 = x9 at *
  generalize at8 s 10 = x10 at *
  generalize at8 s 11 = x11 at *
  have u9 : IntKind.u8.wrap (x9 - 48) = x9 - 48 := by simp [IntKind.wrap, IntKind.bits, IntKind.signed]; omega
  have u10 : IntKind.u8.wrap (x10 - 48) = x10 - 48 := by simp [IntKind.wrap, IntKind.bits, IntKind.signed]; omega
  have u11 : IntKind.u8.wrap (x11 - 48) = x11 - 48 := by simp [IntKind.wrap, IntKind.bits, IntKind.signed]; omega
  have v9 : IntKind.i64.wrap (x9 - 48) = x9 - 48 := by simp [IntKind.wrap, IntKind.bits, IntKind.signed]; omega
  have v10 : IntKind.i64.wrap (x10 - 48) = x10 - 48 := by simp [IntKind.wrap, IntKind.bits, IntKind.signed]; omega
  have v11 : IntKind.i64.wrap (x11 - 48) = x11 - 48 := by simp [IntKind.wrap, IntKind.bits, IntKind.signed]; omega
  have m9 : IntKind.i64.wrap (100 * (x9 - 48)) = 100 * (x9 - 48) := by simp [IntKind.wrap, IntKind.bits, IntKind.signed]; omega
  have m10 : IntKind.i64.wrap (10 * (x10 - 48)) = 10 * (x10 - 48) := by simp [IntKind.wrap, IntKind.bits, IntKind.signed]; omega
  have p1 : IntKind.i64.wrap (100 * (x9 - 48) + 10 * (x10 - 48)) = 100 * (x9 - 48) + 10 * (x10 - 48) := by simp [IntKind.wrap, IntKind.bits, IntKind.signed]; omega
  have p2 : IntKind.i64.wrap (100 * (x9 - 48) + 10 * (x10 - 48) + (x11 - 48)) = 100 * (x9 - 48) + 10 * (x10 - 48) + (x11 - 48) := by simp [IntKind.wrap, IntKind.bits, IntKind.signed]; omega
  clear s9 s10 s11
  have hz' : decide ((12 : Int) < (s.size : Int)) = false := by simp; omega
  have er : rsn s = ⟨#[]⟩ := by unfold rsn; rw [if_neg hz]
  rw [if_neg (fun k => hz k.1), er]
  clear er
  have HL : Hid (∀ W, Calls Tryz.prog 90 #[.string ⟨#[]⟩] W fun e w' => e = .returned (.bool true) ∧ w' = W) := fun W => rValue_any ⟨#[]⟩ W (Nat.zero_le _)
  by_cases hlo : 100 * (x9 - 48) + 10 * (x10 - 48) + (x11 - 48) < 100
  · rw [if_pos hlo]
    go_enter Tryz.func47, Tryz.ntmps47
    go_wp2_with fail
    refine (HV.out _).mono ?_
    generalize w.alloc (.cells #[.int .i64 0, .string ⟨#[]⟩, .int .i64 0, .slice none 0 0, .slice none 0 0] 33) = w0 at *
    rintro e w1 ⟨rfl, B1⟩
    have hg1 := tblk_below hg0 B1
    have C1 := C0.trans (B1.mono C0.size)
    clear hg0 C0 B1 HV
    go_wp2_with fail
    refine wp_loop_rounds 4 ?_
    rw [rounds_succ]
    go_wp2_with fail
    refine (D.out _ _).mono ?_
    rw [h9]
    rintro e w2 ⟨rfl, rfl⟩
    go_wp2_with fail
    rw [rounds_succ]
    go_wp2_with fail
    refine (D.out _ _).mono ?_
    rw [h10]
    rintro e w2 ⟨rfl, rfl⟩
    go_wp2_with fail
    rw [rounds_succ]
    go_wp2_with fail
    refine (D.out _ _).mono ?_
    rw [h11]
    rintro e w2 ⟨rfl, rfl⟩
    go_wp2_with fail
    rw [rounds_succ]
    go_wp2_with fail
    go_quiet (fail)
    have hg2 : (w2.drewN nq).heap[w.heap.size]? = _ := hg1
    have C2 := C1.trans (lbelow_drewN w.heap.size w2 nq)
    clear hg1 C1
    generalize w2.drewN nq = w3 at *
    clear u9 u10 u11 v9 v10 v11 m9 m10 p1 p2 e8 e9 e10 e11 h9 h10 h11 b9 b10 b11 b8 b80 h12' D hs b12
    generalize hcd : 100 * (x9 - 48) + 10 * (x10 - 48) + (x11 - 48) = cdv at *
    have HCD : Hid (100 * (x9 - 48) + 10 * (x10 - 48) + (x11 - 48) = cdv) := hcd
    clear hcd
    generalize 100 * (x9 - 48) + 10 * (x10 - 48) = cd2
    have HW := five_cells hg2 (.int .i64 0) (.string ⟨#[]⟩) (.int .i64 0) (.slice none 0 0) (.slice none 0 0)
    have HB := five_below (.int .i64 0) (.string ⟨#[]⟩) (.int .i64 0) (.slice none 0 0) (.slice none 0 0) C2 (Nat.le_refl _)
    have a0 := tblk_cell (i := 0) hg2 rfl
    have z0 := lblk_z (i := 0) hg2
    have a1 := tblk_cell (i := 1) hg2 rfl
    have z1 := lblk_z (i := 1) hg2
    have a2 := tblk_cell (i := 2) hg2 rfl
    have z2 := lblk_z (i := 2) hg2
    have a3 := tblk_cell (i := 3) hg2 rfl
    have z3 := lblk_z (i := 3) hg2
    have a4 := tblk_cell (i := 4) hg2 rfl
    have z4 := lblk_z (i := 4) hg2
    have r0 := tblk_cell (i := 0) HW rfl
    have r1 := tblk_cell (i := 1) HW rfl
    have r2 := tblk_cell (i := 2) HW rfl
    have r3 := tblk_cell (i := 3) HW rfl
    have r4 := tblk_cell (i := 4) HW rfl
    unfold five at r0 r1 r2 r3 r4 HB
    have HB' : Hid _ := HB
    clear HB HW hg2 C2
    go_wp2
    refine bodyPost_ret (v := .tuple #[.agg #[.int .i64 0, .string ⟨#[]⟩, .int .i64 0, .slice none 0 0, .slice none 0 0], .bool false]) (by simp [results, Tryz.results47, go_sem, r0, r1, r2, r3, r4]) rfl ⟨by first | rfl | (rw [← HCD.out]; rfl), HB'.out⟩
  · rw [if_neg hlo]
    have hloB : decide (100 * (x9 - 48) + 10 * (x10 - 48) + (x11 - 48) < 100) = false := by simp; omega
    clear hlo
    by_cases hhi : 599 < 100 * (x9 - 48) + 10 * (x10 - 48) + (x11 - 48)
    · rw [if_pos hhi]
      go_enter Tryz.func47, Tryz.ntmps47
      go_wp2_with fail
      refine (HV.out _).mono ?_
      generalize w.alloc (.cells #[.int .i64 0, .string ⟨#[]⟩, .int .i64 0, .slice none 0 0, .slice none 0 0] 33) = w0 at *
      rintro e w1 ⟨rfl, B1⟩
      have hg1 := tblk_below hg0 B1
      have C1 := C0.trans (B1.mono C0.size)
      clear hg0 C0 B1 HV
      go_wp2_with fail
      refine wp_loop_rounds 4 ?_
      rw [rounds_succ]
      go_wp2_with fail
      refine (D.out _ _).mono ?_
      rw [h9]
      rintro e w2 ⟨rfl, rfl⟩
      go_wp2_with fail
      rw [rounds_succ]
      go_wp2_with fail
      refine (D.out _ _).mono ?_
      rw [h10]
      rintro e w2 ⟨rfl, rfl⟩
      go_wp2_with fail
      rw [rounds_succ]
      go_wp2_with fail
      refine (D.out _ _).mono ?_
      rw [h11]
      rintro e w2 ⟨rfl, rfl⟩
      go_wp2_with fail
      rw [rounds_succ]
      go_wp2_with fail
      go_quiet (fail)
      have hg2 : (w2.drewN nq).heap[w.heap.size]? = _ := hg1
      have C2 := C1.trans (lbelow_drewN w.heap.size w2 nq)
      clear hg1 C1
      generalize w2.drewN nq = w3 at *
      clear u9 u10 u11 v9 v10 v11 m9 m10 p1 p2 e8 e9 e10 e11 h9 h10 h11 b9 b10 b11 b8 b80 h12' D hs b12
      generalize hcd : 100 * (x9 - 48) + 10 * (x10 - 48) + (x11 - 48) = cdv at *
      have HCD : Hid (100 * (x9 - 48) + 10 * (x10 - 48) + (x11 - 48) = cdv) := hcd
      clear hcd
      generalize 100 * (x9 - 48) + 10 * (x10 - 48) = cd2
      have HW := five_cells hg2 (.int .i64 0) (.string ⟨#[]⟩) (.int .i64 0) (.slice none 0 0) (.slice none 0 0)
      have HB := five_below (.int .i64 0) (.string ⟨#[]⟩) (.int .i64 0) (.slice none 0 0) (.slice none 0 0) C2 (Nat.le_refl _)
      have a0 := tblk_cell (i := 0) hg2 rfl
      have z0 := lblk_z (i := 0) hg2
      have a1 := tblk_cell (i := 1) hg2 rfl
      have z1 := lblk_z (i := 1) hg2
      have a2 := tblk_cell (i := 2) hg2 rfl
      have z2 := lblk_z (i := 2) hg2
      have a3 := tblk_cell (i := 3) hg2 rfl
      have z3 := lblk_z (i := 3) hg2
      have a4 := tblk_cell (i := 4) hg2 rfl
      have z4 := lblk_z (i := 4) hg2
      have r0 := tblk_cell (i := 0) HW rfl
      have r1 := tblk_cell (i := 1) HW rfl
      have r2 := tblk_cell (i := 2) HW rfl
      have r3 := tblk_cell (i := 3) HW rfl
      have r4 := tblk_cell (i := 4) HW rfl
      unfold five at r0 r1 r2 r3 r4 HB
      have HB' : Hid _ := HB
      clear HB HW hg2 C2
      go_wp2
      refine bodyPost_ret (v := .tuple #[.agg #[.int .i64 0, .string ⟨#[]⟩, .int .i64 0, .slice none 0 0, .slice none 0 0], .bool false]) (by simp [results, Tryz.results47, go_sem, r0, r1, r2, r3, r4]) rfl ⟨by first | rfl | (rw [← HCD.out]; rfl), HB'.out⟩
    · rw [if_neg hhi, if_neg (by decide), if_neg (by decide)]
      have hhiB : decide (599 < 100 * (x9 - 48) + 10 * (x10 - 48) + (x11 - 48)) = false := by simp; omega
      clear hhi
      go_enter Tryz.func47, Tryz.ntmps47
      go_wp2_with fail
      refine (HV.out _).mono ?_
      generalize w.alloc (.cells #[.int .i64 0, .string ⟨#[]⟩, .int .i64 0, .slice none 0 0, .slice none 0 0] 33) = w0 at *
      rintro e w1 ⟨rfl, B1⟩
      have hg1 := tblk_below hg0 B1
      have C1 := C0.trans (B1.mono C0.size)
      clear hg0 C0 B1 HV
      go_wp2_with fail
      refine wp_loop_rounds 4 ?_
      rw [rounds_succ]
      go_wp2_with fail
      refine (D.out _ _).mono ?_
      rw [h9]
      rintro e w2 ⟨rfl, rfl⟩
      go_wp2_with fail
      rw [rounds_succ]
      go_wp2_with fail
      refine (D.out _ _).mono ?_
      rw [h10]
      rintro e w2 ⟨rfl, rfl⟩
      go_wp2_with fail
      rw [rounds_succ]
      go_wp2_with fail
      refine (D.out _ _).mono ?_
      rw [h11]
      rintro e w2 ⟨rfl, rfl⟩
      go_wp2_with fail
      rw [rounds_succ]
      go_wp2_with fail
      go_quiet (fail)
      have hg2 : (w2.drewN nq).heap[w.heap.size]? = _ := hg1
      have C2 := C1.trans (lbelow_drewN w.heap.size w2 nq)
      clear hg1 C1
      generalize w2.drewN nq = w3 at *
      clear u9 u10 u11 v9 v10 v11 m9 m10 p1 p2 e8 e9 e10 e11 h9 h10 h11 b9 b10 b11 b8 b80 h12' D hs b12
      generalize hcd : 100 * (x9 - 48) + 10 * (x10 - 48) + (x11 - 48) = cdv at *
      have HCD : Hid (100 * (x9 - 48) + 10 * (x10 - 48) + (x11 - 48) = cdv) := hcd
      clear hcd
      generalize 100 * (x9 - 48) + 10 * (x10 - 48) = cd2
      go_wp2_with fail
      refine (HL.out _).mono ?_
      rintro e w4 ⟨rfl, rfl⟩
      have HW := five_cells hg2 (.int .i64 cdv) (.string ⟨#[]⟩) (.int .i64 m) (.slice none 0 0) (.slice none 0 0)
      have HB := five_below (.int .i64 cdv) (.string ⟨#[]⟩) (.int .i64 m) (.slice none 0 0) (.slice none 0 0) C2 (Nat.le_refl _)
      have a0 := tblk_cell (i := 0) hg2 rfl
      have z0 := lblk_z (i := 0) hg2
      have a1 := tblk_cell (i := 1) hg2 rfl
      have z1 := lblk_z (i := 1) hg2
      have a2 := tblk_cell (i := 2) hg2 rfl
      have z2 := lblk_z (i := 2) hg2
      have a3 := tblk_cell (i := 3) hg2 rfl
      have z3 := lblk_z (i := 3) hg2
      have a4 := tblk_cell (i := 4) hg2 rfl
      have z4 := lblk_z (i := 4) hg2
      have r0 := tblk_cell (i := 0) HW rfl
      have r1 := tblk_cell (i := 1) HW rfl
      have r2 := tblk_cell (i := 2) HW rfl
      have r3 := tblk_cell (i := 3) HW rfl
      have r4 := tblk_cell (i := 4) HW rfl
      unfold five at r0 r1 r2 r3 r4 HB
      have HB' : Hid _ := HB
      clear HB HW hg2 C2
      go_wp2
      refine bodyPost_ret (v := .tuple #[.agg #[.int .i64 cdv, .string ⟨#[]⟩, .int .i64 m, .slice none 0 0, .slice none 0 0], .bool true]) (by simp [results, Tryz.results47, go_sem, r0, r1, r2, r3, r4]) rfl ⟨by first | rfl | (rw [← HCD.out]; rfl), HB'.out⟩
end Go.Proofs.YtkdnckkdofoaoaaGreatDoor

/- The reference's Status: the other lines. -/
namespace Go.Proofs.YtkdnckkdofoaoaaGreatDoor
open Go.RowKit
set_option linter.unusedVariables false

set_option maxRecDepth 100000 in
set_option maxHeartbeats 8000000 in
theorem rstat_bad (s : ByteArray) (w : World) (hs : s.size ≤ maxLen) (hG : ¬ (¬ s.size < 12 ∧ at8 s 8 = 32 ∧ (rverL (s.extract 0 8).data.toList).2.2 = true ∧ (rverL (s.extract 0 8).data.toList).1 = 1 ∧ ¬ 1 < (rverL (s.extract 0 8).data.toList).2.1 ∧ spanP 48 57 (at8 s 9) = true ∧ spanP 48 57 (at8 s 10) = true ∧ spanP 48 57 (at8 s 11) = true)) : Calls Tryz.prog 47 #[.string s] w fun e w' => e = .returned (.tuple #[respV (refS s), .bool (refS s).ok]) ∧ Below w.heap.size w w' := by
  have D : Hid (∀ c W, Calls Tryz.prog 82 #[.int .u8 c] W fun e w' => e = .returned (.bool (spanP 48 57 c)) ∧ w' = W) := fun c W => rdig_any c W
  have hg0 := tblk_new w (.cells #[.int .i64 0, .string ⟨#[]⟩, .int .i64 0, .slice none 0 0, .slice none 0 0] 33)
  have C0 : Below w.heap.size w (w.alloc (.cells #[.int .i64 0, .string ⟨#[]⟩, .int .i64 0, .slice none 0 0, .slice none 0 0] 33)) := (Below.refl _ _).alloc (Nat.le_refl _) _
  unfold maxLen at hs
  unfold refS
  by_cases h12 : s.size < 12
  · rw [if_pos h12]
    have h12' : (s.size : Int) < 12 := by omega
    clear h12 D
    go_enter Tryz.func47, Tryz.ntmps47
    go_wp2
    refine bodyPost_ret (v := .tuple #[.agg #[.int .i64 0, .string ⟨#[]⟩, .int .i64 0, .slice none 0 0, .slice none 0 0], .bool false]) (by simp [results, Tryz.results47, go_sem]) rfl ⟨rfl, C0⟩
  · rw [if_neg h12]
    have b12 : 12 ≤ s.size := by omega
    have h12' : ¬ (s.size : Int) < 12 := by omega
    have b8 : (8 : Int) < (s.size : Int) := by omega
    have e8 := at8_eq (s := s) (i := 8) (Nat.lt_of_lt_of_le (by decide) b12)
    by_cases h8 : at8 s 8 = 32
    · rw [if_neg (fun k => k h8)]
      have h8k := h8
      rw [h8] at e8
      have b80 : (8 : Int) ≤ (s.size : Int) := by omega
      have HV : Hid (∀ W, Calls Tryz.prog 89 #[.string (s.extract 0 8)] W fun e w' => e = .returned (.tuple #[.int .i64 (rverL (s.extract 0 8).data.toList).1, .int .i64 (rverL (s.extract 0 8).data.toList).2.1, .bool (rverL (s.extract 0 8).data.toList).2.2]) ∧ Below W.heap.size W w') := fun W => rversion_any _ W (Nat.le_trans (extract_le _ _ _) hs)
      generalize rverL (s.extract 0 8).data.toList = V at *
      obtain ⟨M, m, ok⟩ := V
      simp only at HV ⊢
      clear h8
      cases ok
      · rw [if_pos rfl]
        clear D
        go_enter Tryz.func47, Tryz.ntmps47
        go_wp2_with fail
        refine (HV.out _).mono ?_
        generalize w.alloc (.cells #[.int .i64 0, .string ⟨#[]⟩, .int .i64 0, .slice none 0 0, .slice none 0 0] 33) = w0 at *
        rintro e w1 ⟨rfl, B1⟩
        have hg1 := tblk_below hg0 B1
        have C1 := C0.trans (B1.mono C0.size)
        clear hg0 C0 B1 HV
        have HW := five_cells hg1 (.int .i64 0) (.string ⟨#[]⟩) (.int .i64 0) (.slice none 0 0) (.slice none 0 0)
        have HB := five_below (.int .i64 0) (.string ⟨#[]⟩) (.int .i64 0) (.slice none 0 0) (.slice none 0 0) C1 (Nat.le_refl _)
        have a0 := tblk_cell (i := 0) hg1 rfl
        have z0 := lblk_z (i := 0) hg1
        have a1 := tblk_cell (i := 1) hg1 rfl
        have z1 := lblk_z (i := 1) hg1
        have a2 := tblk_cell (i := 2) hg1 rfl
        have z2 := lblk_z (i := 2) hg1
        have a3 := tblk_cell (i := 3) hg1 rfl
        have z3 := lblk_z (i := 3) hg1
        have a4 := tblk_cell (i := 4) hg1 rfl
        have z4 := lblk_z (i := 4) hg1
        have r0 := tblk_cell (i := 0) HW rfl
        have r1 := tblk_cell (i := 1) HW rfl
        have r2 := tblk_cell (i := 2) HW rfl
        have r3 := tblk_cell (i := 3) HW rfl
        have r4 := tblk_cell (i := 4) HW rfl
        unfold five at r0 r1 r2 r3 r4 HB
        have HB' : Hid _ := HB
        clear HB HW hg1 C1
        go_wp2
        refine bodyPost_ret (v := .tuple #[.agg #[.int .i64 0, .string ⟨#[]⟩, .int .i64 0, .slice none 0 0, .slice none 0 0], .bool false]) (by simp [results, Tryz.results47, go_sem, r0, r1, r2, r3, r4]) rfl ⟨by first | rfl | (rw [← HCD.out]; rfl), HB'.out⟩
      · rw [if_neg (by decide)]
        by_cases hM : M = 1
        · rw [if_neg (fun k => k hM)]
          subst hM
          by_cases hm : 1 < m
          · rw [if_pos hm]
            clear D
            go_enter Tryz.func47, Tryz.ntmps47
            go_wp2_with fail
            refine (HV.out _).mono ?_
            generalize w.alloc (.cells #[.int .i64 0, .string ⟨#[]⟩, .int .i64 0, .slice none 0 0, .slice none 0 0] 33) = w0 at *
            rintro e w1 ⟨rfl, B1⟩
            have hg1 := tblk_below hg0 B1
            have C1 := C0.trans (B1.mono C0.size)
            clear hg0 C0 B1 HV
            have HW := five_cells hg1 (.int .i64 0) (.string ⟨#[]⟩) (.int .i64 0) (.slice none 0 0) (.slice none 0 0)
            have HB := five_below (.int .i64 0) (.string ⟨#[]⟩) (.int .i64 0) (.slice none 0 0) (.slice none 0 0) C1 (Nat.le_refl _)
            have a0 := tblk_cell (i := 0) hg1 rfl
            have z0 := lblk_z (i := 0) hg1
            have a1 := tblk_cell (i := 1) hg1 rfl
            have z1 := lblk_z (i := 1) hg1
            have a2 := tblk_cell (i := 2) hg1 rfl
            have z2 := lblk_z (i := 2) hg1
            have a3 := tblk_cell (i := 3) hg1 rfl
            have z3 := lblk_z (i := 3) hg1
            have a4 := tblk_cell (i := 4) hg1 rfl
            have z4 := lblk_z (i := 4) hg1
            have r0 := tblk_cell (i := 0) HW rfl
            have r1 := tblk_cell (i := 1) HW rfl
            have r2 := tblk_cell (i := 2) HW rfl
            have r3 := tblk_cell (i := 3) HW rfl
            have r4 := tblk_cell (i := 4) HW rfl
            unfold five at r0 r1 r2 r3 r4 HB
            have HB' : Hid _ := HB
            clear HB HW hg1 C1
            go_wp2
            refine bodyPost_ret (v := .tuple #[.agg #[.int .i64 0, .string ⟨#[]⟩, .int .i64 0, .slice none 0 0, .slice none 0 0], .bool false]) (by simp [results, Tryz.results47, go_sem, r0, r1, r2, r3, r4]) rfl ⟨by first | rfl | (rw [← HCD.out]; rfl), HB'.out⟩
          · rw [if_neg hm]
            have b9 : (9 : Int) < (s.size : Int) := by omega
            have b10 : (10 : Int) < (s.size : Int) := by omega
            have b11 : (11 : Int) < (s.size : Int) := by omega
            have e9 := at8_eq (s := s) (i := 9) (Nat.lt_of_lt_of_le (by decide) b12)
            have e10 := at8_eq (s := s) (i := 10) (Nat.lt_of_lt_of_le (by decide) b12)
            have e11 := at8_eq (s := s) (i := 11) (Nat.lt_of_lt_of_le (by decide) b12)
            cases h9 : spanP 48 57 (at8 s 9)
            · rw [if_pos rfl]
              go_enter Tryz.func47, Tryz.ntmps47
              go_wp2_with fail
              refine (HV.out _).mono ?_
              generalize w.alloc (.cells #[.int .i64 0, .string ⟨#[]⟩, .int .i64 0, .slice none 0 0, .slice none 0 0] 33) = w0 at *
              rintro e w1 ⟨rfl, B1⟩
              have hg1 := tblk_below hg0 B1
              have C1 := C0.trans (B1.mono C0.size)
              clear hg0 C0 B1 HV
              go_wp2_with fail
              refine wp_loop_rounds 4 ?_
              rw [rounds_succ]
              go_wp2_with fail
              refine (D.out _ _).mono ?_
              rw [h9]
              rintro e w2 ⟨rfl, rfl⟩
              have HW := five_cells hg1 (.int .i64 0) (.string ⟨#[]⟩) (.int .i64 0) (.slice none 0 0) (.slice none 0 0)
              have HB := five_below (.int .i64 0) (.string ⟨#[]⟩) (.int .i64 0) (.slice none 0 0) (.slice none 0 0) C1 (Nat.le_refl _)
              have a0 := tblk_cell (i := 0) hg1 rfl
              have z0 := lblk_z (i := 0) hg1
              have a1 := tblk_cell (i := 1) hg1 rfl
              have z1 := lblk_z (i := 1) hg1
              have a2 := tblk_cell (i := 2) hg1 rfl
              have z2 := lblk_z (i := 2) hg1
              have a3 := tblk_cell (i := 3) hg1 rfl
              have z3 := lblk_z (i := 3) hg1
              have a4 := tblk_cell (i := 4) hg1 rfl
              have z4 := lblk_z (i := 4) hg1
              have r0 := tblk_cell (i := 0) HW rfl
              have r1 := tblk_cell (i := 1) HW rfl
              have r2 := tblk_cell (i := 2) HW rfl
              have r3 := tblk_cell (i := 3) HW rfl
              have r4 := tblk_cell (i := 4) HW rfl
              unfold five at r0 r1 r2 r3 r4 HB
              have HB' : Hid _ := HB
              clear HB HW hg1 C1
              go_wp2
              refine bodyPost_ret (v := .tuple #[.agg #[.int .i64 0, .string ⟨#[]⟩, .int .i64 0, .slice none 0 0, .slice none 0 0], .bool false]) (by simp [results, Tryz.results47, go_sem, r0, r1, r2, r3, r4]) rfl ⟨by first | rfl | (rw [← HCD.out]; rfl), HB'.out⟩
            · rw [if_neg (by decide)]
              cases h10 : spanP 48 57 (at8 s 10)
              · rw [if_pos rfl]
                go_enter Tryz.func47, Tryz.ntmps47
                go_wp2_with fail
                refine (HV.out _).mono ?_
                generalize w.alloc (.cells #[.int .i64 0, .string ⟨#[]⟩, .int .i64 0, .slice none 0 0, .slice none 0 0] 33) = w0 at *
                rintro e w1 ⟨rfl, B1⟩
                have hg1 := tblk_below hg0 B1
                have C1 := C0.trans (B1.mono C0.size)
                clear hg0 C0 B1 HV
                go_wp2_with fail
                refine wp_loop_rounds 4 ?_
                rw [rounds_succ]
                go_wp2_with fail
                refine (D.out _ _).mono ?_
                rw [h9]
                rintro e w2 ⟨rfl, rfl⟩
                go_wp2_with fail
                rw [rounds_succ]
                go_wp2_with fail
                refine (D.out _ _).mono ?_
                rw [h10]
                rintro e w2 ⟨rfl, rfl⟩
                have HW := five_cells hg1 (.int .i64 0) (.string ⟨#[]⟩) (.int .i64 0) (.slice none 0 0) (.slice none 0 0)
                have HB := five_below (.int .i64 0) (.string ⟨#[]⟩) (.int .i64 0) (.slice none 0 0) (.slice none 0 0) C1 (Nat.le_refl _)
                have a0 := tblk_cell (i := 0) hg1 rfl
                have z0 := lblk_z (i := 0) hg1
                have a1 := tblk_cell (i := 1) hg1 rfl
                have z1 := lblk_z (i := 1) hg1
                have a2 := tblk_cell (i := 2) hg1 rfl
                have z2 := lblk_z (i := 2) hg1
                have a3 := tblk_cell (i := 3) hg1 rfl
                have z3 := lblk_z (i := 3) hg1
                have a4 := tblk_cell (i := 4) hg1 rfl
                have z4 := lblk_z (i := 4) hg1
                have r0 := tblk_cell (i := 0) HW rfl
                have r1 := tblk_cell (i := 1) HW rfl
                have r2 := tblk_cell (i := 2) HW rfl
                have r3 := tblk_cell (i := 3) HW rfl
                have r4 := tblk_cell (i := 4) HW rfl
                unfold five at r0 r1 r2 r3 r4 HB
                have HB' : Hid _ := HB
                clear HB HW hg1 C1
                go_wp2
                refine bodyPost_ret (v := .tuple #[.agg #[.int .i64 0, .string ⟨#[]⟩, .int .i64 0, .slice none 0 0, .slice none 0 0], .bool false]) (by simp [results, Tryz.results47, go_sem, r0, r1, r2, r3, r4]) rfl ⟨by first | rfl | (rw [← HCD.out]; rfl), HB'.out⟩
              · rw [if_neg (by decide)]
                cases h11 : spanP 48 57 (at8 s 11)
                · rw [if_pos rfl]
                  go_enter Tryz.func47, Tryz.ntmps47
                  go_wp2_with fail
                  refine (HV.out _).mono ?_
                  generalize w.alloc (.cells #[.int .i64 0, .string ⟨#[]⟩, .int .i64 0, .slice none 0 0, .slice none 0 0] 33) = w0 at *
                  rintro e w1 ⟨rfl, B1⟩
                  have hg1 := tblk_below hg0 B1
                  have C1 := C0.trans (B1.mono C0.size)
                  clear hg0 C0 B1 HV
                  go_wp2_with fail
                  refine wp_loop_rounds 4 ?_
                  rw [rounds_succ]
                  go_wp2_with fail
                  refine (D.out _ _).mono ?_
                  rw [h9]
                  rintro e w2 ⟨rfl, rfl⟩
                  go_wp2_with fail
                  rw [rounds_succ]
                  go_wp2_with fail
                  refine (D.out _ _).mono ?_
                  rw [h10]
                  rintro e w2 ⟨rfl, rfl⟩
                  go_wp2_with fail
                  rw [rounds_succ]
                  go_wp2_with fail
                  refine (D.out _ _).mono ?_
                  rw [h11]
                  rintro e w2 ⟨rfl, rfl⟩
                  have HW := five_cells hg1 (.int .i64 0) (.string ⟨#[]⟩) (.int .i64 0) (.slice none 0 0) (.slice none 0 0)
                  have HB := five_below (.int .i64 0) (.string ⟨#[]⟩) (.int .i64 0) (.slice none 0 0) (.slice none 0 0) C1 (Nat.le_refl _)
                  have a0 := tblk_cell (i := 0) hg1 rfl
                  have z0 := lblk_z (i := 0) hg1
                  have a1 := tblk_cell (i := 1) hg1 rfl
                  have z1 := lblk_z (i := 1) hg1
                  have a2 := tblk_cell (i := 2) hg1 rfl
                  have z2 := lblk_z (i := 2) hg1
                  have a3 := tblk_cell (i := 3) hg1 rfl
                  have z3 := lblk_z (i := 3) hg1
                  have a4 := tblk_cell (i := 4) hg1 rfl
                  have z4 := lblk_z (i := 4) hg1
                  have r0 := tblk_cell (i := 0) HW rfl
                  have r1 := tblk_cell (i := 1) HW rfl
                  have r2 := tblk_cell (i := 2) HW rfl
                  have r3 := tblk_cell (i := 3) HW rfl
                  have r4 := tblk_cell (i := 4) HW rfl
                  unfold five at r0 r1 r2 r3 r4 HB
                  have HB' : Hid _ := HB
                  clear HB HW hg1 C1
                  go_wp2
                  refine bodyPost_ret (v := .tuple #[.agg #[.int .i64 0, .string ⟨#[]⟩, .int .i64 0, .slice none 0 0, .slice none 0 0], .bool false]) (by simp [results, Tryz.results47, go_sem, r0, r1, r2, r3, r4]) rfl ⟨by first | rfl | (rw [← HCD.out]; rfl), HB'.out⟩
                · rw [if_neg (by decide)]
                  exact absurd ⟨h12, h8k, rfl, rfl, hm, h9, h10, h11⟩ hG
        · rw [if_pos hM]
          clear D
          go_enter Tryz.func47, Tryz.ntmps47
          go_wp2_with fail
          refine (HV.out _).mono ?_
          generalize w.alloc (.cells #[.int .i64 0, .string ⟨#[]⟩, .int .i64 0, .slice none 0 0, .slice none 0 0] 33) = w0 at *
          rintro e w1 ⟨rfl, B1⟩
          have hg1 := tblk_below hg0 B1
          have C1 := C0.trans (B1.mono C0.size)
          clear hg0 C0 B1 HV
          have HW := five_cells hg1 (.int .i64 0) (.string ⟨#[]⟩) (.int .i64 0) (.slice none 0 0) (.slice none 0 0)
          have HB := five_below (.int .i64 0) (.string ⟨#[]⟩) (.int .i64 0) (.slice none 0 0) (.slice none 0 0) C1 (Nat.le_refl _)
          have a0 := tblk_cell (i := 0) hg1 rfl
          have z0 := lblk_z (i := 0) hg1
          have a1 := tblk_cell (i := 1) hg1 rfl
          have z1 := lblk_z (i := 1) hg1
          have a2 := tblk_cell (i := 2) hg1 rfl
          have z2 := lblk_z (i := 2) hg1
          have a3 := tblk_cell (i := 3) hg1 rfl
          have z3 := lblk_z (i := 3) hg1
          have a4 := tblk_cell (i := 4) hg1 rfl
          have z4 := lblk_z (i := 4) hg1
          have r0 := tblk_cell (i := 0) HW rfl
          have r1 := tblk_cell (i := 1) HW rfl
          have r2 := tblk_cell (i := 2) HW rfl
          have r3 := tblk_cell (i := 3) HW rfl
          have r4 := tblk_cell (i := 4) HW rfl
          unfold five at r0 r1 r2 r3 r4 HB
          have HB' : Hid _ := HB
          clear HB HW hg1 C1
          go_wp2
          refine bodyPost_ret (v := .tuple #[.agg #[.int .i64 0, .string ⟨#[]⟩, .int .i64 0, .slice none 0 0, .slice none 0 0], .bool false]) (by simp [results, Tryz.results47, go_sem, r0, r1, r2, r3, r4]) rfl ⟨by first | rfl | (rw [← HCD.out]; rfl), HB'.out⟩
    · rw [if_pos h8]
      have g8 : ¬ ((s[8]'(Nat.lt_of_lt_of_le (by decide) b12)).toNat : Int) = 32 := by rw [e8]; exact h8
      clear h12 h8 D e8
      go_enter Tryz.func47, Tryz.ntmps47
      go_wp2
      refine bodyPost_ret (v := .tuple #[.agg #[.int .i64 0, .string ⟨#[]⟩, .int .i64 0, .slice none 0 0, .slice none 0 0], .bool false]) (by simp [results, Tryz.results47, go_sem]) rfl ⟨rfl, C0⟩
end Go.Proofs.YtkdnckkdofoaoaaGreatDoor

/- The reference's Status. -/
namespace Go.Proofs.YtkdnckkdofoaoaaGreatDoor
open Go.RowKit
set_option linter.unusedVariables false

theorem rstatus_any (s : ByteArray) (w : World) (hs : s.size ≤ maxLen) : Calls Tryz.prog 47 #[.string s] w fun e w' => e = .returned (.tuple #[respV (refS s), .bool (refS s).ok]) ∧ Below w.heap.size w w' := by
  by_cases hG : (¬ s.size < 12 ∧ at8 s 8 = 32 ∧ (rverL (s.extract 0 8).data.toList).2.2 = true ∧ (rverL (s.extract 0 8).data.toList).1 = 1 ∧ ¬ 1 < (rverL (s.extract 0 8).data.toList).2.1 ∧ spanP 48 57 (at8 s 9) = true ∧ spanP 48 57 (at8 s 10) = true ∧ spanP 48 57 (at8 s 11) = true)
  · obtain ⟨h12, h8, v3, v1, v2, h9, h10, h11⟩ := hG
    have hv : rverL (s.extract 0 8).data.toList = (1, (rverL (s.extract 0 8).data.toList).2.1, true) := by rw [← v1, ← v3]
    by_cases hz : 12 < s.size
    · exact rstat_long s _ w hs h12 h8 hv v2 h9 h10 h11 hz
    · exact rstat_short s _ w hs h12 h8 hv v2 h9 h10 h11 hz
  · exact rstat_bad s w hs hG
end Go.Proofs.YtkdnckkdofoaoaaGreatDoor
