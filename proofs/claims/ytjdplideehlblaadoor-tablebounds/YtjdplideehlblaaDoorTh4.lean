/- Texts that the proof leans on, one behind the other: TcE4 -/
import Derived.Test.YtjdplideehlblaaDoorTg
/- TableBounds' walk (written by tce.py): the number at place 4. -/
namespace Go.Proofs.YtjdplideehlblaaDoor
open Go.ChangeShapes Go.WideShapes Go.ChangeAt Go.RowKit
set_option linter.unusedVariables false
set_option maxRecDepth 100000 in
set_option maxHeartbeats 4000000 in
theorem bounds_in4 (wh n : Int) (w : World) (HA : Hid (Calls Tryd.prog 7 #[] w fun e w' => e = .returned (.bool true) ∧ Below w.heap.size w w')) (kk cc : Nat) (hbits : bits .and .i64 wh (1023 : Int) = (kk : Int)) (hm6 : (kk : Int).tmod 6 = ((4 : Nat) : Int)) (hcc : cc ≤ 31) (hbitc : bits .and .i64 n (31 : Int) = (cc : Int)) (hlo : (1 : Int) ≤ n) (hhi : n ≤ (1048576 : Int)) :
    Calls Tryd.prog 6 #[.int .i64 wh, .int .i64 n] w fun e w' => e = .returned (.bool true) ∧ Below w.heap.size w w' := by
  have hw : wiB n 1 1048576 = true := by unfold wiB; rw [decide_eq_true hlo, decide_eq_true hhi]; rfl
  have hlo2 : decide ((1 : Int) ≤ n) = true := decide_eq_true hlo
  have hhi2 : decide (n ≤ (1048576 : Int)) = true := decide_eq_true hhi
  clear hlo hhi
  go_enter Tryd.func6, Tryd.ntmps6
  go_wp2_with (go_at_call 7; refine HA.out.mono ?_; rintro e W1 ⟨rfl, B1⟩)
  have HR : Hid (Calls Tryd.prog 11 #[.slice (some ⟨W1.heap.size + 1 + 1 + 1 + 1, 0, none⟩) 1 1] (((((W1.alloc (.cells #[.int .i64 256, .int .i64 1, .int .i64 1, .int .i64 1, .int .i64 1, .int .i64 1] 3)).alloc (.cells #[.int .i64 1048576, .int .i64 64, .int .i64 64, .int .i64 1048576, .int .i64 1048576, .int .i64 1048576] 3)).alloc (.cells #[.string ⟨#[104]⟩] 9)).alloc (.cells #[.string ⟨#[116]⟩, .slice (some ⟨W1.heap.size + 1 + 1, 0, none⟩) 1 1, .int .i64 256, .int .i64 1, .int .i64 1, .int .i64 1, .int .i64 n, .int .i64 1] 32)).drew.alloc (.cells #[.string ⟨#[116]⟩, .slice (some ⟨W1.heap.size + 1 + 1, 0, none⟩) 1 1, .int .i64 256, .int .i64 1, .int .i64 1, .int .i64 1, .int .i64 n, .int .i64 1] 32)) fun e w' => e = .returned (.bool true) ∧ Below (W1.heap.size + 4) ((((W1.alloc (.cells #[.int .i64 256, .int .i64 1, .int .i64 1, .int .i64 1, .int .i64 1, .int .i64 1] 3)).alloc (.cells #[.int .i64 1048576, .int .i64 64, .int .i64 64, .int .i64 1048576, .int .i64 1048576, .int .i64 1048576] 3)).alloc (.cells #[.string ⟨#[104]⟩] 9)).alloc (.cells #[.string ⟨#[116]⟩, .slice (some ⟨W1.heap.size + 1 + 1, 0, none⟩) 1 1, .int .i64 256, .int .i64 1, .int .i64 1, .int .i64 1, .int .i64 n, .int .i64 1] 32)) w') := by
    have q := one_call4 n W1
    rw [hw] at q
    exact q
  have S0 := one_cells4 n W1 _ (Below.refl _ ((((W1.alloc (.cells #[.int .i64 256, .int .i64 1, .int .i64 1, .int .i64 1, .int .i64 1, .int .i64 1] 3)).alloc (.cells #[.int .i64 1048576, .int .i64 64, .int .i64 64, .int .i64 1048576, .int .i64 1048576, .int .i64 1048576] 3)).alloc (.cells #[.string ⟨#[104]⟩] 9)).alloc (.cells #[.string ⟨#[116]⟩, .slice (some ⟨W1.heap.size + 1 + 1, 0, none⟩) 1 1, .int .i64 256, .int .i64 1, .int .i64 1, .int .i64 1, .int .i64 n, .int .i64 1] 32)))
  go_region_held3 (fun V => V.cell? ⟨W1.heap.size, 4, none⟩ = some (.int .i64 1) ∧ V.cell? ⟨W1.heap.size + 1, 4, none⟩ = some (.int .i64 1048576) ∧ V.cell? ⟨W1.heap.size + 1 + 1 + 1, 0, none⟩ = some (.string ⟨#[116]⟩) ∧ V.cell? ⟨W1.heap.size + 1 + 1 + 1, 1, none⟩ = some (.slice (some ⟨W1.heap.size + 1 + 1, 0, none⟩) 1 1) ∧ V.cell? ⟨W1.heap.size + 1 + 1 + 1, 2, none⟩ = some (.int .i64 256) ∧ V.cell? ⟨W1.heap.size + 1 + 1 + 1, 3, none⟩ = some (.int .i64 1) ∧ V.cell? ⟨W1.heap.size + 1 + 1 + 1, 4, none⟩ = some (.int .i64 1) ∧ V.cell? ⟨W1.heap.size + 1 + 1 + 1, 5, none⟩ = some (.int .i64 1) ∧ V.cell? ⟨W1.heap.size + 1 + 1 + 1, 6, none⟩ = some (.int .i64 n) ∧ V.cell? ⟨W1.heap.size + 1 + 1 + 1, 7, none⟩ = some (.int .i64 1)) (first | exact S5 | go_keep) (first | (go_simp; go_at_call 11; refine HR.out.mono ?_; rintro e W5 ⟨rfl, B5⟩; have S5 := one_cells4 n W1 W5 B5))
  go_wp2
  have T0 := two_new W5
  have hs0 : ((W5.alloc (.cells #[] 32)).alloc (.cells #[] 9)).heap.size = W5.heap.size + 2 := by simp
  have D0 : Below W5.heap.size W5 ((W5.alloc (.cells #[] 32)).alloc (.cells #[] 9)) := ((Below.refl _ _).alloc (Nat.le_refl _) _).alloc (by simp) _
  have BW5 : Below w.heap.size w W5 := by
    have b4 : Below W1.heap.size W1 ((((W1.alloc (.cells #[.int .i64 256, .int .i64 1, .int .i64 1, .int .i64 1, .int .i64 1, .int .i64 1] 3)).alloc (.cells #[.int .i64 1048576, .int .i64 64, .int .i64 64, .int .i64 1048576, .int .i64 1048576, .int .i64 1048576] 3)).alloc (.cells #[.string ⟨#[104]⟩] 9)).alloc (.cells #[.string ⟨#[116]⟩, .slice (some ⟨W1.heap.size + 1 + 1, 0, none⟩) 1 1, .int .i64 256, .int .i64 1, .int .i64 1, .int .i64 1, .int .i64 n, .int .i64 1] 32)) := ((((Below.refl _ _).alloc (Nat.le_refl _) _).alloc (by simp) _).alloc (by simp <;> omega) _).alloc (by simp <;> omega) _
    exact B1.trans ((b4.trans (B5.mono (Nat.le_add_right _ _))).mono B1.size)
  clear S0 hs0 HA B5 HR
  go_loopw [10, 11, 12] (fun v10 v11 vi wr => ∃ (i g10 c10 g11 c11 : Nat) (xs : List SlotX), i ≤ cc ∧ vi = .int .i64 i ∧ v10 = .slice (some ⟨g10, 0, none⟩) i c10 ∧ v11 = .slice (some ⟨g11, 0, none⟩) i c11 ∧ Hid (TwoR W5.heap.size wr v10 v11 xs (wordsB i)) ∧ Hid (xs.map (·.s) = manyB i) ∧ Below W5.heap.size W5 wr) (fun _ _ vi _ => cc - (intOf vi).toNat)
  case atStart => exact ⟨0, _, 0, _, 0, [], Nat.zero_le _, rfl, rfl, rfl, T0, rfl, D0⟩
  case round =>
    obtain ⟨i, g10, c10, g11, c11, xs, hi, rfl, rfl, rfl, hT, hX, hB⟩ := hrel
    clear T0 D0
    by_cases hlt : i < cc
    · have hcv := bconv1 wr (97 + (i : Int)) (UInt8.ofNat (97 + i)) (by rw [u8_97 i (by omega)]; omega)
      have hcat := fun W : World => wordB_cat W i
      have hTv := hT.out.below ((Below.refl _ _).alloc (Nat.le_refl _) (.cells #[.int .u8 (97 + (i : Int))] 5))
      have hvs : (wr.alloc (.cells #[.int .u8 (97 + (i : Int))] 5)).heap.size = wr.heap.size + 1 := by simp
      have hxl : xs.length = i := by have := congrArg List.length hX.out; rw [List.length_map, manyB_len] at this; exact this
      obtain ⟨g1, c1, W2, r1, B2, g2, c2, W4, r4, B4, T4⟩ := hTv.step (by have := hB.size; omega) (wordB i) (slotB i) rfl (by rw [wordsB_len]; omega) (by omega)
      rw [hvs, wordsB_len] at r1
      rw [hxl] at r4
      rw [hxl, wordsB_len] at T4
      have hX2 : Hid ((xs ++ [(⟨slotB i, some ⟨W2.heap.size, 0, none⟩, 1⟩ : SlotX)]).map (·.s) = manyB (i + 1)) := by rw [Hid, List.map_append, hX.out, manyB_succ]; rfl
      have hT2 : Hid (TwoR W5.heap.size W4 (.slice (some ⟨g2, 0, none⟩) (i + 1) c2) (.slice (some ⟨g1, 0, none⟩) (i + 1) c1) (xs ++ [⟨slotB i, some ⟨W2.heap.size, 0, none⟩, 1⟩]) (wordsB (i + 1))) := by rw [Hid, wordsB_succ]; exact T4
      have hB4 : Below W5.heap.size W5 W4 := (hB.alloc hB.size _).trans B4
      have HR1 : Hid ((Builtin.append_ #[30, 30] 30 #[.slice (some ⟨g11, 0, none⟩) i c11, .slice (some ⟨wr.heap.size + 1, 0, none⟩) 1 1]).run Tryd.prog ((wr.alloc (.cells #[.int .u8 (97 + (i : Int))] 5)).alloc (.cells #[.string (wordB i)] 9)) = .ok (.slice (some ⟨g1, 0, none⟩) (i + 1) c1) W2) := r1
      have HR4 : Hid ((Builtin.append_ #[22, 22] 22 #[.slice (some ⟨g10, 0, none⟩) i c10, .slice (some ⟨W2.heap.size + 1, 0, none⟩) 1 1]).run Tryd.prog ((W2.alloc (.cells #[.string (wordB i)] 9)).alloc (.cells #[.string (wordB i), .slice (some ⟨W2.heap.size, 0, none⟩) 1 1, .int .i64 256, .int .i64 1, .int .i64 1, .int .i64 1, .int .i64 1, .int .i64 1] 32)) = .ok (.slice (some ⟨g2, 0, none⟩) (i + 1) c2) W4) := r4
      clear hT hX hTv hvs hxl r1 r4 T4 B2 B4 hB
      generalize wordB i = x at *
      generalize UInt8.ofNat (97 + i) = bb at *
      go_wp2_with (first | (at_builtin; refine wpList_append_run2 rfl _ _ 30 30 rfl _ _ _ W2 rfl rfl HR1.out ?_) | (at_builtin; refine wpList_append_run2 rfl _ _ 22 22 rfl _ _ _ W4 rfl rfl HR4.out ?_))
      go_roundw
      case rel => exact ⟨i + 1, g2, c2, g1, c1, _, by omega, by go_num, rfl, rfl, hT2, hX2, hB4⟩
      case measure => simp [intOf]; omega
    · have hic : i = cc := by omega
      subst hic
      have L1 : Sls wr.heap.size wr (.slice (some ⟨g10, 0, none⟩) i c10) (manyB i) := by rw [← hX.out]; exact hT.out.s.sls
      have L2 : Txs wr.heap.size wr (.slice (some ⟨g11, 0, none⟩) i c11) (wordsB i) := hT.out.t.txs
      have HM := mright i (by omega) g10 c10 g11 c11 wr L1 L2
      have HW := wright i (by omega) g10 c10 g11 c11 wr L1 L2
      have hB6 : Below w.heap.size w wr := BW5.trans (hB.mono BW5.size)
      clear hT hX L1 L2 hB hlt
      obtain hc | hc | hc | hc : (i = 0 ∨ (1 ≤ i ∧ i ≤ 8) ∨ (9 ≤ i ∧ i ≤ 16) ∨ 17 ≤ i) := by omega
      all_goals
        have k1 : Hid (rightP (manyB i) = (decide (1 ≤ i) && decide (i ≤ 16))) := many_right ⟨i, by omega⟩
        have k2 : Hid (rightP [wideB i] = (decide (1 ≤ i) && decide (i ≤ 8))) := wide_right ⟨i, by omega⟩
        rw [k1.out] at HM
        rw [k2.out] at HW
        clear k1 k2
      · have d1 : decide (1 ≤ i) = false := decide_eq_false (by omega)
        have d2 : decide (i ≤ 16) = true := decide_eq_true (by omega)
        have d3 : decide (i ≤ 8) = true := decide_eq_true (by omega)
        rw [d1, d2] at HM
        rw [d1, d3] at HW
        have e1 : decide ((1 : Int) ≤ (i : Int)) = false := decide_eq_false (by omega)
        have e2 : decide ((i : Int) ≤ 16) = true := decide_eq_true (by omega)
        have e3 : decide ((i : Int) ≤ 8) = true := decide_eq_true (by omega)
        clear hc d1 d2 d3 hi hcc
        go_wp2_with fail
        refine HM.out.mono ?_
        rintro e W7 ⟨rfl, B7, s0, s1, s2, s3, s4, s5, s6, s7⟩
        have B8 := HW.out W7 B7
        go_wp2_with fail
        refine B8.mono ?_
        rintro e W8 ⟨rfl, B9⟩
        go_wp2
        go_ret
        exact ⟨rfl, hB6.trans (B9.mono hB6.size)⟩
      · have d1 : decide (1 ≤ i) = true := decide_eq_true (by omega)
        have d2 : decide (i ≤ 16) = true := decide_eq_true (by omega)
        have d3 : decide (i ≤ 8) = true := decide_eq_true (by omega)
        rw [d1, d2] at HM
        rw [d1, d3] at HW
        have e1 : decide ((1 : Int) ≤ (i : Int)) = true := decide_eq_true (by omega)
        have e2 : decide ((i : Int) ≤ 16) = true := decide_eq_true (by omega)
        have e3 : decide ((i : Int) ≤ 8) = true := decide_eq_true (by omega)
        clear hc d1 d2 d3 hi hcc
        go_wp2_with fail
        refine HM.out.mono ?_
        rintro e W7 ⟨rfl, B7, s0, s1, s2, s3, s4, s5, s6, s7⟩
        have B8 := HW.out W7 B7
        go_wp2_with fail
        refine B8.mono ?_
        rintro e W8 ⟨rfl, B9⟩
        go_wp2
        go_ret
        exact ⟨rfl, hB6.trans (B9.mono hB6.size)⟩
      · have d1 : decide (1 ≤ i) = true := decide_eq_true (by omega)
        have d2 : decide (i ≤ 16) = true := decide_eq_true (by omega)
        have d3 : decide (i ≤ 8) = false := decide_eq_false (by omega)
        rw [d1, d2] at HM
        rw [d1, d3] at HW
        have e1 : decide ((1 : Int) ≤ (i : Int)) = true := decide_eq_true (by omega)
        have e2 : decide ((i : Int) ≤ 16) = true := decide_eq_true (by omega)
        have e3 : decide ((i : Int) ≤ 8) = false := decide_eq_false (by omega)
        clear hc d1 d2 d3 hi hcc
        go_wp2_with fail
        refine HM.out.mono ?_
        rintro e W7 ⟨rfl, B7, s0, s1, s2, s3, s4, s5, s6, s7⟩
        have B8 := HW.out W7 B7
        go_wp2_with fail
        refine B8.mono ?_
        rintro e W8 ⟨rfl, B9⟩
        go_wp2
        go_ret
        exact ⟨rfl, hB6.trans (B9.mono hB6.size)⟩
      · have d1 : decide (1 ≤ i) = true := decide_eq_true (by omega)
        have d2 : decide (i ≤ 16) = false := decide_eq_false (by omega)
        have d3 : decide (i ≤ 8) = false := decide_eq_false (by omega)
        rw [d1, d2] at HM
        rw [d1, d3] at HW
        have e1 : decide ((1 : Int) ≤ (i : Int)) = true := decide_eq_true (by omega)
        have e2 : decide ((i : Int) ≤ 16) = false := decide_eq_false (by omega)
        have e3 : decide ((i : Int) ≤ 8) = false := decide_eq_false (by omega)
        clear hc d1 d2 d3 hi hcc
        go_wp2_with fail
        refine HM.out.mono ?_
        rintro e W7 ⟨rfl, B7, s0, s1, s2, s3, s4, s5, s6, s7⟩
        have B8 := HW.out W7 B7
        go_wp2_with fail
        refine B8.mono ?_
        rintro e W8 ⟨rfl, B9⟩
        go_wp2
        go_ret
        exact ⟨rfl, hB6.trans (B9.mono hB6.size)⟩

set_option maxRecDepth 100000 in
set_option maxHeartbeats 4000000 in
theorem bounds_lo4 (wh n : Int) (w : World) (HA : Hid (Calls Tryd.prog 7 #[] w fun e w' => e = .returned (.bool true) ∧ Below w.heap.size w w')) (kk cc : Nat) (hbits : bits .and .i64 wh (1023 : Int) = (kk : Int)) (hm6 : (kk : Int).tmod 6 = ((4 : Nat) : Int)) (hcc : cc ≤ 31) (hbitc : bits .and .i64 n (31 : Int) = (cc : Int)) (hlo : ¬ (1 : Int) ≤ n) :
    Calls Tryd.prog 6 #[.int .i64 wh, .int .i64 n] w fun e w' => e = .returned (.bool true) ∧ Below w.heap.size w w' := by
  have hw : wiB n 1 1048576 = false := by unfold wiB; rw [decide_eq_false hlo]; rfl
  have hlo2 : decide ((1 : Int) ≤ n) = false := decide_eq_false hlo
  clear hlo
  go_enter Tryd.func6, Tryd.ntmps6
  go_wp2_with (go_at_call 7; refine HA.out.mono ?_; rintro e W1 ⟨rfl, B1⟩)
  have HR : Hid (Calls Tryd.prog 11 #[.slice (some ⟨W1.heap.size + 1 + 1 + 1 + 1, 0, none⟩) 1 1] (((((W1.alloc (.cells #[.int .i64 256, .int .i64 1, .int .i64 1, .int .i64 1, .int .i64 1, .int .i64 1] 3)).alloc (.cells #[.int .i64 1048576, .int .i64 64, .int .i64 64, .int .i64 1048576, .int .i64 1048576, .int .i64 1048576] 3)).alloc (.cells #[.string ⟨#[104]⟩] 9)).alloc (.cells #[.string ⟨#[116]⟩, .slice (some ⟨W1.heap.size + 1 + 1, 0, none⟩) 1 1, .int .i64 256, .int .i64 1, .int .i64 1, .int .i64 1, .int .i64 n, .int .i64 1] 32)).drew.alloc (.cells #[.string ⟨#[116]⟩, .slice (some ⟨W1.heap.size + 1 + 1, 0, none⟩) 1 1, .int .i64 256, .int .i64 1, .int .i64 1, .int .i64 1, .int .i64 n, .int .i64 1] 32)) fun e w' => e = .returned (.bool false) ∧ Below (W1.heap.size + 4) ((((W1.alloc (.cells #[.int .i64 256, .int .i64 1, .int .i64 1, .int .i64 1, .int .i64 1, .int .i64 1] 3)).alloc (.cells #[.int .i64 1048576, .int .i64 64, .int .i64 64, .int .i64 1048576, .int .i64 1048576, .int .i64 1048576] 3)).alloc (.cells #[.string ⟨#[104]⟩] 9)).alloc (.cells #[.string ⟨#[116]⟩, .slice (some ⟨W1.heap.size + 1 + 1, 0, none⟩) 1 1, .int .i64 256, .int .i64 1, .int .i64 1, .int .i64 1, .int .i64 n, .int .i64 1] 32)) w') := by
    have q := one_call4 n W1
    rw [hw] at q
    exact q
  have S0 := one_cells4 n W1 _ (Below.refl _ ((((W1.alloc (.cells #[.int .i64 256, .int .i64 1, .int .i64 1, .int .i64 1, .int .i64 1, .int .i64 1] 3)).alloc (.cells #[.int .i64 1048576, .int .i64 64, .int .i64 64, .int .i64 1048576, .int .i64 1048576, .int .i64 1048576] 3)).alloc (.cells #[.string ⟨#[104]⟩] 9)).alloc (.cells #[.string ⟨#[116]⟩, .slice (some ⟨W1.heap.size + 1 + 1, 0, none⟩) 1 1, .int .i64 256, .int .i64 1, .int .i64 1, .int .i64 1, .int .i64 n, .int .i64 1] 32)))
  refine wp_region_held_drew (S := (fun V => V.cell? ⟨W1.heap.size, 4, none⟩ = some (.int .i64 1) ∧ V.cell? ⟨W1.heap.size + 1, 4, none⟩ = some (.int .i64 1048576) ∧ V.cell? ⟨W1.heap.size + 1 + 1 + 1, 0, none⟩ = some (.string ⟨#[116]⟩) ∧ V.cell? ⟨W1.heap.size + 1 + 1 + 1, 1, none⟩ = some (.slice (some ⟨W1.heap.size + 1 + 1, 0, none⟩) 1 1) ∧ V.cell? ⟨W1.heap.size + 1 + 1 + 1, 2, none⟩ = some (.int .i64 256) ∧ V.cell? ⟨W1.heap.size + 1 + 1 + 1, 3, none⟩ = some (.int .i64 1) ∧ V.cell? ⟨W1.heap.size + 1 + 1 + 1, 4, none⟩ = some (.int .i64 1) ∧ V.cell? ⟨W1.heap.size + 1 + 1 + 1, 5, none⟩ = some (.int .i64 1) ∧ V.cell? ⟨W1.heap.size + 1 + 1 + 1, 6, none⟩ = some (.int .i64 n) ∧ V.cell? ⟨W1.heap.size + 1 + 1 + 1, 7, none⟩ = some (.int .i64 1))) (by kernel_rfl) S0 (fun hHeld => ?_)
  refine wpAnyH_take (i := 0) (oi := { dst := some 47, op := Op.load 32 (Operand.tmp 7), type := 32, pos := "law.go:164", after := #[], guard := none }) (v := ?v0) rfl (by kernel_rfl) (by kernel_rfl) (by kernel_rfl) (fun _ _ _ h => h) (Or.inl ⟨by rfl, ?hy0⟩) hHeld ?rest0
  case hy0 => (intro w hSw; (try dsimp only at hSw); go_simp; try with_reducible rfl)
  try simp only [Act.put, List.setIfInBounds_toArray, List.set_cons_zero, List.set_cons_succ]
  refine wpAnyH_take (i := 3) (oi := { dst := some 50, op := Op.move (Operand.tmp 1), type := 3, pos := "law.go:164", after := #[], guard := none }) (v := ?v3) rfl (by kernel_rfl) (by kernel_rfl) (by kernel_rfl) (fun _ _ _ h => h) (Or.inl ⟨by rfl, ?hy3⟩) hHeld ?rest3
  case hy3 => (intro w hSw; (try dsimp only at hSw); go_simp; try with_reducible rfl)
  try simp only [Act.put, List.setIfInBounds_toArray, List.set_cons_zero, List.set_cons_succ]
  refine wpAnyH_take (i := 4) (oi := { dst := some 51, op := Op.move (Operand.tmp 5), type := 37, pos := "law.go:164", after := #[], guard := none }) (v := ?v4) rfl (by kernel_rfl) (by kernel_rfl) (by kernel_rfl) (fun _ _ _ h => h) (Or.inl ⟨by rfl, ?hy4⟩) hHeld ?rest4
  case hy4 => (intro w hSw; (try dsimp only at hSw); go_simp; try with_reducible rfl)
  try simp only [Act.put, List.setIfInBounds_toArray, List.set_cons_zero, List.set_cons_succ]
  refine wpAnyH_take (i := 5) (oi := { dst := some 52, op := Op.move (Operand.tmp 8), type := 3, pos := "law.go:164", after := #[], guard := none }) (v := ?v5) rfl (by kernel_rfl) (by kernel_rfl) (by kernel_rfl) (fun _ _ _ h => h) (Or.inl ⟨by rfl, ?hy5⟩) hHeld ?rest5
  case hy5 => (intro w hSw; (try dsimp only at hSw); go_simp; try with_reducible rfl)
  try simp only [Act.put, List.setIfInBounds_toArray, List.set_cons_zero, List.set_cons_succ]
  refine wpAnyH_take (i := 6) (oi := { dst := some 53, op := Op.indexAddr 37 (Operand.tmp 51) (Operand.tmp 52), type := 0, pos := "law.go:164", after := #[{ on := 4, ground := Ground.data }, { on := 5, ground := Ground.data }], guard := none }) (v := ?v6) rfl (by kernel_rfl) (by kernel_rfl) (by kernel_rfl) (fun _ _ _ h => h) (Or.inl ⟨by rfl, ?hy6⟩) hHeld ?rest6
  case hy6 => (intro w hSw; (try dsimp only at hSw); go_simp; try with_reducible rfl)
  try simp only [Act.put, List.setIfInBounds_toArray, List.set_cons_zero, List.set_cons_succ]
  refine wpAnyH_take (i := 7) (oi := { dst := some 54, op := Op.load 3 (Operand.tmp 53), type := 3, pos := "law.go:164", after := #[{ on := 6, ground := Ground.data }], guard := none }) (v := ?v7) rfl (by kernel_rfl) (by kernel_rfl) (by kernel_rfl) (fun _ _ _ h => h) (Or.inl ⟨by rfl, ?hy7⟩) hHeld ?rest7
  case hy7 => (intro w hSw; (try dsimp only at hSw); go_simp; try with_reducible rfl)
  try simp only [Act.put, List.setIfInBounds_toArray, List.set_cons_zero, List.set_cons_succ]
  refine wpAnyH_take (i := 8) (oi := { dst := some 55, op := Op.binOp BinOp.geq 3 (Operand.tmp 50) (Operand.tmp 54) 3, type := 4, pos := "law.go:164", after := #[{ on := 3, ground := Ground.data }, { on := 7, ground := Ground.data }], guard := none }) (v := ?v8) rfl (by kernel_rfl) (by kernel_rfl) (by kernel_rfl) (fun _ _ _ h => h) (Or.inl ⟨by rfl, ?hy8⟩) hHeld ?rest8
  case hy8 => (intro w hSw; (try dsimp only at hSw); go_simp; try with_reducible rfl)
  try simp only [Act.put, List.setIfInBounds_toArray, List.set_cons_zero, List.set_cons_succ]
  refine wpAnyH_ready (rs := [1]) (by kernel_rfl) (by simp) ?_
  refine AllReadyH.cons (o := { dst := some 48, op := Op.buildSlice 22 1 #[(0, Operand.tmp 47)], type := 22, pos := "law.go:164", after := #[{ on := 0, ground := Ground.data }], guard := none }) rfl (fun K hK => ?_) AllReadyH.nil
  go_simp
  refine hK.out _ _ (one_cells4 n W1 _ (((Below.refl _ _).drew).alloc (by simp) _)) (fun hHeld => ?_)
  clear hK K
  try simp only [Act.put, List.setIfInBounds_toArray, List.set_cons_zero, List.set_cons_succ]
  refine wpAnyH_ready (rs := [2]) (by kernel_rfl) (by simp) ?_
  refine AllReadyH.cons (o := { dst := some 49, op := Op.call { callee := Callee.value (Operand.func 11), args := #[Operand.tmp 48], argTypes := #[22] }, type := 4, pos := "law.go:164", after := #[{ on := 1, ground := Ground.data }], guard := none }) rfl (fun K hK => ?_) AllReadyH.nil
  go_simp
  go_at_call 11
  refine HR.out.mono ?_
  rintro e W5 ⟨rfl, B5⟩
  have S5 := one_cells4 n W1 W5 B5
  refine hK.out _ _ S5 (fun hHeld => ?_)
  clear hK K
  try simp only [Act.put, List.setIfInBounds_toArray, List.set_cons_zero, List.set_cons_succ]
  refine wpAnyH_take (i := 9) (oi := { dst := some 56, op := Op.move (Operand.tmp 55), type := 4, pos := "law.go:164", after := #[{ on := 8, ground := Ground.data }, { on := 2, ground := Ground.chain }], guard := none }) (v := ?v9) rfl (by kernel_rfl) (by kernel_rfl) (by kernel_rfl) (fun _ _ _ h => h) (Or.inl ⟨by rfl, ?hy9⟩) hHeld ?rest9
  case hy9 => (intro w hSw; (try dsimp only at hSw); go_simp; try with_reducible rfl)
  try simp only [Act.put, List.setIfInBounds_toArray, List.set_cons_zero, List.set_cons_succ]
  refine wpAnyH_take (i := 10) (oi := { dst := some 57, op := Op.move (Operand.tmp 1), type := 3, pos := "law.go:164", after := #[{ on := 9, ground := Ground.guard }], guard := some (9, true) }) (v := undef) rfl (by kernel_rfl) (by kernel_rfl) (by kernel_rfl) (fun _ _ _ h => h) (Or.inr ⟨by rfl, rfl⟩) hHeld ?rest10
  try simp only [Act.put, List.setIfInBounds_toArray, List.set_cons_zero, List.set_cons_succ]
  refine wpAnyH_take (i := 11) (oi := { dst := some 58, op := Op.move (Operand.tmp 6), type := 37, pos := "law.go:164", after := #[{ on := 9, ground := Ground.guard }], guard := some (9, true) }) (v := undef) rfl (by kernel_rfl) (by kernel_rfl) (by kernel_rfl) (fun _ _ _ h => h) (Or.inr ⟨by rfl, rfl⟩) hHeld ?rest11
  try simp only [Act.put, List.setIfInBounds_toArray, List.set_cons_zero, List.set_cons_succ]
  refine wpAnyH_take (i := 12) (oi := { dst := some 59, op := Op.move (Operand.tmp 8), type := 3, pos := "law.go:164", after := #[{ on := 9, ground := Ground.guard }], guard := some (9, true) }) (v := undef) rfl (by kernel_rfl) (by kernel_rfl) (by kernel_rfl) (fun _ _ _ h => h) (Or.inr ⟨by rfl, rfl⟩) hHeld ?rest12
  try simp only [Act.put, List.setIfInBounds_toArray, List.set_cons_zero, List.set_cons_succ]
  refine wpAnyH_take (i := 13) (oi := { dst := some 60, op := Op.indexAddr 37 (Operand.tmp 58) (Operand.tmp 59), type := 0, pos := "law.go:164", after := #[{ on := 11, ground := Ground.data }, { on := 12, ground := Ground.data }, { on := 9, ground := Ground.guard }], guard := some (9, true) }) (v := undef) rfl (by kernel_rfl) (by kernel_rfl) (by kernel_rfl) (fun _ _ _ h => h) (Or.inr ⟨by rfl, rfl⟩) hHeld ?rest13
  try simp only [Act.put, List.setIfInBounds_toArray, List.set_cons_zero, List.set_cons_succ]
  refine wpAnyH_take (i := 14) (oi := { dst := some 61, op := Op.load 3 (Operand.tmp 60), type := 3, pos := "law.go:164", after := #[{ on := 13, ground := Ground.data }, { on := 9, ground := Ground.guard }], guard := some (9, true) }) (v := undef) rfl (by kernel_rfl) (by kernel_rfl) (by kernel_rfl) (fun _ _ _ h => h) (Or.inr ⟨by rfl, rfl⟩) hHeld ?rest14
  try simp only [Act.put, List.setIfInBounds_toArray, List.set_cons_zero, List.set_cons_succ]
  refine wpAnyH_take (i := 15) (oi := { dst := some 62, op := Op.binOp BinOp.leq 3 (Operand.tmp 57) (Operand.tmp 61) 3, type := 4, pos := "law.go:164", after := #[{ on := 10, ground := Ground.data }, { on := 14, ground := Ground.data }, { on := 9, ground := Ground.guard }], guard := some (9, true) }) (v := undef) rfl (by kernel_rfl) (by kernel_rfl) (by kernel_rfl) (fun _ _ _ h => h) (Or.inr ⟨by rfl, rfl⟩) hHeld ?rest15
  try simp only [Act.put, List.setIfInBounds_toArray, List.set_cons_zero, List.set_cons_succ]
  refine wpAnyH_take (i := 16) (oi := { dst := some 63, op := Op.pick (Operand.tmp 56) (Operand.tmp 62) (Operand.const (Value.bool false)), type := 4, pos := "law.go:164", after := #[{ on := 9, ground := Ground.data }, { on := 15, ground := Ground.data }], guard := none }) (v := ?v16) rfl (by kernel_rfl) (by kernel_rfl) (by kernel_rfl) (fun _ _ _ h => h) (Or.inl ⟨by rfl, ?hy16⟩) hHeld ?rest16
  case hy16 => (intro w hSw; (try dsimp only at hSw); go_simp; try with_reducible rfl)
  try simp only [Act.put, List.setIfInBounds_toArray, List.set_cons_zero, List.set_cons_succ]
  refine wpAnyH_take (i := 17) (oi := { dst := some 64, op := Op.binOp BinOp.neq 4 (Operand.tmp 49) (Operand.tmp 63) 4, type := 4, pos := "law.go:164", after := #[{ on := 2, ground := Ground.data }, { on := 16, ground := Ground.data }], guard := none }) (v := ?v17) rfl (by kernel_rfl) (by kernel_rfl) (by kernel_rfl) (fun _ _ _ h => h) (Or.inl ⟨by rfl, ?hy17⟩) hHeld ?rest17
  case hy17 => (intro w hSw; (try dsimp only at hSw); go_simp; try with_reducible rfl)
  try simp only [Act.put, List.setIfInBounds_toArray, List.set_cons_zero, List.set_cons_succ]
  refine wpAnyH_done (by kernel_rfl) ?_ _

  go_wp2
  have T0 := two_new W5
  have hs0 : ((W5.alloc (.cells #[] 32)).alloc (.cells #[] 9)).heap.size = W5.heap.size + 2 := by simp
  have D0 : Below W5.heap.size W5 ((W5.alloc (.cells #[] 32)).alloc (.cells #[] 9)) := ((Below.refl _ _).alloc (Nat.le_refl _) _).alloc (by simp) _
  have BW5 : Below w.heap.size w W5 := by
    have b4 : Below W1.heap.size W1 ((((W1.alloc (.cells #[.int .i64 256, .int .i64 1, .int .i64 1, .int .i64 1, .int .i64 1, .int .i64 1] 3)).alloc (.cells #[.int .i64 1048576, .int .i64 64, .int .i64 64, .int .i64 1048576, .int .i64 1048576, .int .i64 1048576] 3)).alloc (.cells #[.string ⟨#[104]⟩] 9)).alloc (.cells #[.string ⟨#[116]⟩, .slice (some ⟨W1.heap.size + 1 + 1, 0, none⟩) 1 1, .int .i64 256, .int .i64 1, .int .i64 1, .int .i64 1, .int .i64 n, .int .i64 1] 32)) := ((((Below.refl _ _).alloc (Nat.le_refl _) _).alloc (by simp) _).alloc (by simp <;> omega) _).alloc (by simp <;> omega) _
    exact B1.trans ((b4.trans (B5.mono (Nat.le_add_right _ _))).mono B1.size)
  clear S0 hs0 HA B5 HR
  go_loopw [10, 11, 12] (fun v10 v11 vi wr => ∃ (i g10 c10 g11 c11 : Nat) (xs : List SlotX), i ≤ cc ∧ vi = .int .i64 i ∧ v10 = .slice (some ⟨g10, 0, none⟩) i c10 ∧ v11 = .slice (some ⟨g11, 0, none⟩) i c11 ∧ Hid (TwoR W5.heap.size wr v10 v11 xs (wordsB i)) ∧ Hid (xs.map (·.s) = manyB i) ∧ Below W5.heap.size W5 wr) (fun _ _ vi _ => cc - (intOf vi).toNat)
  case atStart => exact ⟨0, _, 0, _, 0, [], Nat.zero_le _, rfl, rfl, rfl, T0, rfl, D0⟩
  case round =>
    obtain ⟨i, g10, c10, g11, c11, xs, hi, rfl, rfl, rfl, hT, hX, hB⟩ := hrel
    clear T0 D0
    by_cases hlt : i < cc
    · have hcv := bconv1 wr (97 + (i : Int)) (UInt8.ofNat (97 + i)) (by rw [u8_97 i (by omega)]; omega)
      have hcat := fun W : World => wordB_cat W i
      have hTv := hT.out.below ((Below.refl _ _).alloc (Nat.le_refl _) (.cells #[.int .u8 (97 + (i : Int))] 5))
      have hvs : (wr.alloc (.cells #[.int .u8 (97 + (i : Int))] 5)).heap.size = wr.heap.size + 1 := by simp
      have hxl : xs.length = i := by have := congrArg List.length hX.out; rw [List.length_map, manyB_len] at this; exact this
      obtain ⟨g1, c1, W2, r1, B2, g2, c2, W4, r4, B4, T4⟩ := hTv.step (by have := hB.size; omega) (wordB i) (slotB i) rfl (by rw [wordsB_len]; omega) (by omega)
      rw [hvs, wordsB_len] at r1
      rw [hxl] at r4
      rw [hxl, wordsB_len] at T4
      have hX2 : Hid ((xs ++ [(⟨slotB i, some ⟨W2.heap.size, 0, none⟩, 1⟩ : SlotX)]).map (·.s) = manyB (i + 1)) := by rw [Hid, List.map_append, hX.out, manyB_succ]; rfl
      have hT2 : Hid (TwoR W5.heap.size W4 (.slice (some ⟨g2, 0, none⟩) (i + 1) c2) (.slice (some ⟨g1, 0, none⟩) (i + 1) c1) (xs ++ [⟨slotB i, some ⟨W2.heap.size, 0, none⟩, 1⟩]) (wordsB (i + 1))) := by rw [Hid, wordsB_succ]; exact T4
      have hB4 : Below W5.heap.size W5 W4 := (hB.alloc hB.size _).trans B4
      have HR1 : Hid ((Builtin.append_ #[30, 30] 30 #[.slice (some ⟨g11, 0, none⟩) i c11, .slice (some ⟨wr.heap.size + 1, 0, none⟩) 1 1]).run Tryd.prog ((wr.alloc (.cells #[.int .u8 (97 + (i : Int))] 5)).alloc (.cells #[.string (wordB i)] 9)) = .ok (.slice (some ⟨g1, 0, none⟩) (i + 1) c1) W2) := r1
      have HR4 : Hid ((Builtin.append_ #[22, 22] 22 #[.slice (some ⟨g10, 0, none⟩) i c10, .slice (some ⟨W2.heap.size + 1, 0, none⟩) 1 1]).run Tryd.prog ((W2.alloc (.cells #[.string (wordB i)] 9)).alloc (.cells #[.string (wordB i), .slice (some ⟨W2.heap.size, 0, none⟩) 1 1, .int .i64 256, .int .i64 1, .int .i64 1, .int .i64 1, .int .i64 1, .int .i64 1] 32)) = .ok (.slice (some ⟨g2, 0, none⟩) (i + 1) c2) W4) := r4
      clear hT hX hTv hvs hxl r1 r4 T4 B2 B4 hB
      generalize wordB i = x at *
      generalize UInt8.ofNat (97 + i) = bb at *
      go_wp2_with (first | (at_builtin; refine wpList_append_run2 rfl _ _ 30 30 rfl _ _ _ W2 rfl rfl HR1.out ?_) | (at_builtin; refine wpList_append_run2 rfl _ _ 22 22 rfl _ _ _ W4 rfl rfl HR4.out ?_))
      go_roundw
      case rel => exact ⟨i + 1, g2, c2, g1, c1, _, by omega, by go_num, rfl, rfl, hT2, hX2, hB4⟩
      case measure => simp [intOf]; omega
    · have hic : i = cc := by omega
      subst hic
      have L1 : Sls wr.heap.size wr (.slice (some ⟨g10, 0, none⟩) i c10) (manyB i) := by rw [← hX.out]; exact hT.out.s.sls
      have L2 : Txs wr.heap.size wr (.slice (some ⟨g11, 0, none⟩) i c11) (wordsB i) := hT.out.t.txs
      have HM := mright i (by omega) g10 c10 g11 c11 wr L1 L2
      have HW := wright i (by omega) g10 c10 g11 c11 wr L1 L2
      have hB6 : Below w.heap.size w wr := BW5.trans (hB.mono BW5.size)
      clear hT hX L1 L2 hB hlt
      obtain hc | hc | hc | hc : (i = 0 ∨ (1 ≤ i ∧ i ≤ 8) ∨ (9 ≤ i ∧ i ≤ 16) ∨ 17 ≤ i) := by omega
      all_goals
        have k1 : Hid (rightP (manyB i) = (decide (1 ≤ i) && decide (i ≤ 16))) := many_right ⟨i, by omega⟩
        have k2 : Hid (rightP [wideB i] = (decide (1 ≤ i) && decide (i ≤ 8))) := wide_right ⟨i, by omega⟩
        rw [k1.out] at HM
        rw [k2.out] at HW
        clear k1 k2
      · have d1 : decide (1 ≤ i) = false := decide_eq_false (by omega)
        have d2 : decide (i ≤ 16) = true := decide_eq_true (by omega)
        have d3 : decide (i ≤ 8) = true := decide_eq_true (by omega)
        rw [d1, d2] at HM
        rw [d1, d3] at HW
        have e1 : decide ((1 : Int) ≤ (i : Int)) = false := decide_eq_false (by omega)
        have e2 : decide ((i : Int) ≤ 16) = true := decide_eq_true (by omega)
        have e3 : decide ((i : Int) ≤ 8) = true := decide_eq_true (by omega)
        clear hc d1 d2 d3 hi hcc
        go_wp2_with fail
        refine HM.out.mono ?_
        rintro e W7 ⟨rfl, B7, s0, s1, s2, s3, s4, s5, s6, s7⟩
        have B8 := HW.out W7 B7
        go_wp2_with fail
        refine B8.mono ?_
        rintro e W8 ⟨rfl, B9⟩
        go_wp2
        go_ret
        exact ⟨rfl, hB6.trans (B9.mono hB6.size)⟩
      · have d1 : decide (1 ≤ i) = true := decide_eq_true (by omega)
        have d2 : decide (i ≤ 16) = true := decide_eq_true (by omega)
        have d3 : decide (i ≤ 8) = true := decide_eq_true (by omega)
        rw [d1, d2] at HM
        rw [d1, d3] at HW
        have e1 : decide ((1 : Int) ≤ (i : Int)) = true := decide_eq_true (by omega)
        have e2 : decide ((i : Int) ≤ 16) = true := decide_eq_true (by omega)
        have e3 : decide ((i : Int) ≤ 8) = true := decide_eq_true (by omega)
        clear hc d1 d2 d3 hi hcc
        go_wp2_with fail
        refine HM.out.mono ?_
        rintro e W7 ⟨rfl, B7, s0, s1, s2, s3, s4, s5, s6, s7⟩
        have B8 := HW.out W7 B7
        go_wp2_with fail
        refine B8.mono ?_
        rintro e W8 ⟨rfl, B9⟩
        go_wp2
        go_ret
        exact ⟨rfl, hB6.trans (B9.mono hB6.size)⟩
      · have d1 : decide (1 ≤ i) = true := decide_eq_true (by omega)
        have d2 : decide (i ≤ 16) = true := decide_eq_true (by omega)
        have d3 : decide (i ≤ 8) = false := decide_eq_false (by omega)
        rw [d1, d2] at HM
        rw [d1, d3] at HW
        have e1 : decide ((1 : Int) ≤ (i : Int)) = true := decide_eq_true (by omega)
        have e2 : decide ((i : Int) ≤ 16) = true := decide_eq_true (by omega)
        have e3 : decide ((i : Int) ≤ 8) = false := decide_eq_false (by omega)
        clear hc d1 d2 d3 hi hcc
        go_wp2_with fail
        refine HM.out.mono ?_
        rintro e W7 ⟨rfl, B7, s0, s1, s2, s3, s4, s5, s6, s7⟩
        have B8 := HW.out W7 B7
        go_wp2_with fail
        refine B8.mono ?_
        rintro e W8 ⟨rfl, B9⟩
        go_wp2
        go_ret
        exact ⟨rfl, hB6.trans (B9.mono hB6.size)⟩
      · have d1 : decide (1 ≤ i) = true := decide_eq_true (by omega)
        have d2 : decide (i ≤ 16) = false := decide_eq_false (by omega)
        have d3 : decide (i ≤ 8) = false := decide_eq_false (by omega)
        rw [d1, d2] at HM
        rw [d1, d3] at HW
        have e1 : decide ((1 : Int) ≤ (i : Int)) = true := decide_eq_true (by omega)
        have e2 : decide ((i : Int) ≤ 16) = false := decide_eq_false (by omega)
        have e3 : decide ((i : Int) ≤ 8) = false := decide_eq_false (by omega)
        clear hc d1 d2 d3 hi hcc
        go_wp2_with fail
        refine HM.out.mono ?_
        rintro e W7 ⟨rfl, B7, s0, s1, s2, s3, s4, s5, s6, s7⟩
        have B8 := HW.out W7 B7
        go_wp2_with fail
        refine B8.mono ?_
        rintro e W8 ⟨rfl, B9⟩
        go_wp2
        go_ret
        exact ⟨rfl, hB6.trans (B9.mono hB6.size)⟩

set_option maxRecDepth 100000 in
set_option maxHeartbeats 4000000 in
theorem bounds_hi4 (wh n : Int) (w : World) (HA : Hid (Calls Tryd.prog 7 #[] w fun e w' => e = .returned (.bool true) ∧ Below w.heap.size w w')) (kk cc : Nat) (hbits : bits .and .i64 wh (1023 : Int) = (kk : Int)) (hm6 : (kk : Int).tmod 6 = ((4 : Nat) : Int)) (hcc : cc ≤ 31) (hbitc : bits .and .i64 n (31 : Int) = (cc : Int)) (hlo : (1 : Int) ≤ n) (hhi : ¬ n ≤ (1048576 : Int)) :
    Calls Tryd.prog 6 #[.int .i64 wh, .int .i64 n] w fun e w' => e = .returned (.bool true) ∧ Below w.heap.size w w' := by
  have hw : wiB n 1 1048576 = false := by unfold wiB; rw [decide_eq_true hlo, decide_eq_false hhi]; rfl
  have hlo2 : decide ((1 : Int) ≤ n) = true := decide_eq_true hlo
  have hhi2 : decide (n ≤ (1048576 : Int)) = false := decide_eq_false hhi
  clear hlo hhi
  go_enter Tryd.func6, Tryd.ntmps6
  go_wp2_with (go_at_call 7; refine HA.out.mono ?_; rintro e W1 ⟨rfl, B1⟩)
  have HR : Hid (Calls Tryd.prog 11 #[.slice (some ⟨W1.heap.size + 1 + 1 + 1 + 1, 0, none⟩) 1 1] (((((W1.alloc (.cells #[.int .i64 256, .int .i64 1, .int .i64 1, .int .i64 1, .int .i64 1, .int .i64 1] 3)).alloc (.cells #[.int .i64 1048576, .int .i64 64, .int .i64 64, .int .i64 1048576, .int .i64 1048576, .int .i64 1048576] 3)).alloc (.cells #[.string ⟨#[104]⟩] 9)).alloc (.cells #[.string ⟨#[116]⟩, .slice (some ⟨W1.heap.size + 1 + 1, 0, none⟩) 1 1, .int .i64 256, .int .i64 1, .int .i64 1, .int .i64 1, .int .i64 n, .int .i64 1] 32)).drew.alloc (.cells #[.string ⟨#[116]⟩, .slice (some ⟨W1.heap.size + 1 + 1, 0, none⟩) 1 1, .int .i64 256, .int .i64 1, .int .i64 1, .int .i64 1, .int .i64 n, .int .i64 1] 32)) fun e w' => e = .returned (.bool false) ∧ Below (W1.heap.size + 4) ((((W1.alloc (.cells #[.int .i64 256, .int .i64 1, .int .i64 1, .int .i64 1, .int .i64 1, .int .i64 1] 3)).alloc (.cells #[.int .i64 1048576, .int .i64 64, .int .i64 64, .int .i64 1048576, .int .i64 1048576, .int .i64 1048576] 3)).alloc (.cells #[.string ⟨#[104]⟩] 9)).alloc (.cells #[.string ⟨#[116]⟩, .slice (some ⟨W1.heap.size + 1 + 1, 0, none⟩) 1 1, .int .i64 256, .int .i64 1, .int .i64 1, .int .i64 1, .int .i64 n, .int .i64 1] 32)) w') := by
    have q := one_call4 n W1
    rw [hw] at q
    exact q
  have S0 := one_cells4 n W1 _ (Below.refl _ ((((W1.alloc (.cells #[.int .i64 256, .int .i64 1, .int .i64 1, .int .i64 1, .int .i64 1, .int .i64 1] 3)).alloc (.cells #[.int .i64 1048576, .int .i64 64, .int .i64 64, .int .i64 1048576, .int .i64 1048576, .int .i64 1048576] 3)).alloc (.cells #[.string ⟨#[104]⟩] 9)).alloc (.cells #[.string ⟨#[116]⟩, .slice (some ⟨W1.heap.size + 1 + 1, 0, none⟩) 1 1, .int .i64 256, .int .i64 1, .int .i64 1, .int .i64 1, .int .i64 n, .int .i64 1] 32)))
  go_region_held3 (fun V => V.cell? ⟨W1.heap.size, 4, none⟩ = some (.int .i64 1) ∧ V.cell? ⟨W1.heap.size + 1, 4, none⟩ = some (.int .i64 1048576) ∧ V.cell? ⟨W1.heap.size + 1 + 1 + 1, 0, none⟩ = some (.string ⟨#[116]⟩) ∧ V.cell? ⟨W1.heap.size + 1 + 1 + 1, 1, none⟩ = some (.slice (some ⟨W1.heap.size + 1 + 1, 0, none⟩) 1 1) ∧ V.cell? ⟨W1.heap.size + 1 + 1 + 1, 2, none⟩ = some (.int .i64 256) ∧ V.cell? ⟨W1.heap.size + 1 + 1 + 1, 3, none⟩ = some (.int .i64 1) ∧ V.cell? ⟨W1.heap.size + 1 + 1 + 1, 4, none⟩ = some (.int .i64 1) ∧ V.cell? ⟨W1.heap.size + 1 + 1 + 1, 5, none⟩ = some (.int .i64 1) ∧ V.cell? ⟨W1.heap.size + 1 + 1 + 1, 6, none⟩ = some (.int .i64 n) ∧ V.cell? ⟨W1.heap.size + 1 + 1 + 1, 7, none⟩ = some (.int .i64 1)) (first | exact S5 | go_keep) (first | (go_simp; go_at_call 11; refine HR.out.mono ?_; rintro e W5 ⟨rfl, B5⟩; have S5 := one_cells4 n W1 W5 B5))
  go_wp2
  have T0 := two_new W5
  have hs0 : ((W5.alloc (.cells #[] 32)).alloc (.cells #[] 9)).heap.size = W5.heap.size + 2 := by simp
  have D0 : Below W5.heap.size W5 ((W5.alloc (.cells #[] 32)).alloc (.cells #[] 9)) := ((Below.refl _ _).alloc (Nat.le_refl _) _).alloc (by simp) _
  have BW5 : Below w.heap.size w W5 := by
    have b4 : Below W1.heap.size W1 ((((W1.alloc (.cells #[.int .i64 256, .int .i64 1, .int .i64 1, .int .i64 1, .int .i64 1, .int .i64 1] 3)).alloc (.cells #[.int .i64 1048576, .int .i64 64, .int .i64 64, .int .i64 1048576, .int .i64 1048576, .int .i64 1048576] 3)).alloc (.cells #[.string ⟨#[104]⟩] 9)).alloc (.cells #[.string ⟨#[116]⟩, .slice (some ⟨W1.heap.size + 1 + 1, 0, none⟩) 1 1, .int .i64 256, .int .i64 1, .int .i64 1, .int .i64 1, .int .i64 n, .int .i64 1] 32)) := ((((Below.refl _ _).alloc (Nat.le_refl _) _).alloc (by simp) _).alloc (by simp <;> omega) _).alloc (by simp <;> omega) _
    exact B1.trans ((b4.trans (B5.mono (Nat.le_add_right _ _))).mono B1.size)
  clear S0 hs0 HA B5 HR
  go_loopw [10, 11, 12] (fun v10 v11 vi wr => ∃ (i g10 c10 g11 c11 : Nat) (xs : List SlotX), i ≤ cc ∧ vi = .int .i64 i ∧ v10 = .slice (some ⟨g10, 0, none⟩) i c10 ∧ v11 = .slice (some ⟨g11, 0, none⟩) i c11 ∧ Hid (TwoR W5.heap.size wr v10 v11 xs (wordsB i)) ∧ Hid (xs.map (·.s) = manyB i) ∧ Below W5.heap.size W5 wr) (fun _ _ vi _ => cc - (intOf vi).toNat)
  case atStart => exact ⟨0, _, 0, _, 0, [], Nat.zero_le _, rfl, rfl, rfl, T0, rfl, D0⟩
  case round =>
    obtain ⟨i, g10, c10, g11, c11, xs, hi, rfl, rfl, rfl, hT, hX, hB⟩ := hrel
    clear T0 D0
    by_cases hlt : i < cc
    · have hcv := bconv1 wr (97 + (i : Int)) (UInt8.ofNat (97 + i)) (by rw [u8_97 i (by omega)]; omega)
      have hcat := fun W : World => wordB_cat W i
      have hTv := hT.out.below ((Below.refl _ _).alloc (Nat.le_refl _) (.cells #[.int .u8 (97 + (i : Int))] 5))
      have hvs : (wr.alloc (.cells #[.int .u8 (97 + (i : Int))] 5)).heap.size = wr.heap.size + 1 := by simp
      have hxl : xs.length = i := by have := congrArg List.length hX.out; rw [List.length_map, manyB_len] at this; exact this
      obtain ⟨g1, c1, W2, r1, B2, g2, c2, W4, r4, B4, T4⟩ := hTv.step (by have := hB.size; omega) (wordB i) (slotB i) rfl (by rw [wordsB_len]; omega) (by omega)
      rw [hvs, wordsB_len] at r1
      rw [hxl] at r4
      rw [hxl, wordsB_len] at T4
      have hX2 : Hid ((xs ++ [(⟨slotB i, some ⟨W2.heap.size, 0, none⟩, 1⟩ : SlotX)]).map (·.s) = manyB (i + 1)) := by rw [Hid, List.map_append, hX.out, manyB_succ]; rfl
      have hT2 : Hid (TwoR W5.heap.size W4 (.slice (some ⟨g2, 0, none⟩) (i + 1) c2) (.slice (some ⟨g1, 0, none⟩) (i + 1) c1) (xs ++ [⟨slotB i, some ⟨W2.heap.size, 0, none⟩, 1⟩]) (wordsB (i + 1))) := by rw [Hid, wordsB_succ]; exact T4
      have hB4 : Below W5.heap.size W5 W4 := (hB.alloc hB.size _).trans B4
      have HR1 : Hid ((Builtin.append_ #[30, 30] 30 #[.slice (some ⟨g11, 0, none⟩) i c11, .slice (some ⟨wr.heap.size + 1, 0, none⟩) 1 1]).run Tryd.prog ((wr.alloc (.cells #[.int .u8 (97 + (i : Int))] 5)).alloc (.cells #[.string (wordB i)] 9)) = .ok (.slice (some ⟨g1, 0, none⟩) (i + 1) c1) W2) := r1
      have HR4 : Hid ((Builtin.append_ #[22, 22] 22 #[.slice (some ⟨g10, 0, none⟩) i c10, .slice (some ⟨W2.heap.size + 1, 0, none⟩) 1 1]).run Tryd.prog ((W2.alloc (.cells #[.string (wordB i)] 9)).alloc (.cells #[.string (wordB i), .slice (some ⟨W2.heap.size, 0, none⟩) 1 1, .int .i64 256, .int .i64 1, .int .i64 1, .int .i64 1, .int .i64 1, .int .i64 1] 32)) = .ok (.slice (some ⟨g2, 0, none⟩) (i + 1) c2) W4) := r4
      clear hT hX hTv hvs hxl r1 r4 T4 B2 B4 hB
      generalize wordB i = x at *
      generalize UInt8.ofNat (97 + i) = bb at *
      go_wp2_with (first | (at_builtin; refine wpList_append_run2 rfl _ _ 30 30 rfl _ _ _ W2 rfl rfl HR1.out ?_) | (at_builtin; refine wpList_append_run2 rfl _ _ 22 22 rfl _ _ _ W4 rfl rfl HR4.out ?_))
      go_roundw
      case rel => exact ⟨i + 1, g2, c2, g1, c1, _, by omega, by go_num, rfl, rfl, hT2, hX2, hB4⟩
      case measure => simp [intOf]; omega
    · have hic : i = cc := by omega
      subst hic
      have L1 : Sls wr.heap.size wr (.slice (some ⟨g10, 0, none⟩) i c10) (manyB i) := by rw [← hX.out]; exact hT.out.s.sls
      have L2 : Txs wr.heap.size wr (.slice (some ⟨g11, 0, none⟩) i c11) (wordsB i) := hT.out.t.txs
      have HM := mright i (by omega) g10 c10 g11 c11 wr L1 L2
      have HW := wright i (by omega) g10 c10 g11 c11 wr L1 L2
      have hB6 : Below w.heap.size w wr := BW5.trans (hB.mono BW5.size)
      clear hT hX L1 L2 hB hlt
      obtain hc | hc | hc | hc : (i = 0 ∨ (1 ≤ i ∧ i ≤ 8) ∨ (9 ≤ i ∧ i ≤ 16) ∨ 17 ≤ i) := by omega
      all_goals
        have k1 : Hid (rightP (manyB i) = (decide (1 ≤ i) && decide (i ≤ 16))) := many_right ⟨i, by omega⟩
        have k2 : Hid (rightP [wideB i] = (decide (1 ≤ i) && decide (i ≤ 8))) := wide_right ⟨i, by omega⟩
        rw [k1.out] at HM
        rw [k2.out] at HW
        clear k1 k2
      · have d1 : decide (1 ≤ i) = false := decide_eq_false (by omega)
        have d2 : decide (i ≤ 16) = true := decide_eq_true (by omega)
        have d3 : decide (i ≤ 8) = true := decide_eq_true (by omega)
        rw [d1, d2] at HM
        rw [d1, d3] at HW
        have e1 : decide ((1 : Int) ≤ (i : Int)) = false := decide_eq_false (by omega)
        have e2 : decide ((i : Int) ≤ 16) = true := decide_eq_true (by omega)
        have e3 : decide ((i : Int) ≤ 8) = true := decide_eq_true (by omega)
        clear hc d1 d2 d3 hi hcc
        go_wp2_with fail
        refine HM.out.mono ?_
        rintro e W7 ⟨rfl, B7, s0, s1, s2, s3, s4, s5, s6, s7⟩
        have B8 := HW.out W7 B7
        go_wp2_with fail
        refine B8.mono ?_
        rintro e W8 ⟨rfl, B9⟩
        go_wp2
        go_ret
        exact ⟨rfl, hB6.trans (B9.mono hB6.size)⟩
      · have d1 : decide (1 ≤ i) = true := decide_eq_true (by omega)
        have d2 : decide (i ≤ 16) = true := decide_eq_true (by omega)
        have d3 : decide (i ≤ 8) = true := decide_eq_true (by omega)
        rw [d1, d2] at HM
        rw [d1, d3] at HW
        have e1 : decide ((1 : Int) ≤ (i : Int)) = true := decide_eq_true (by omega)
        have e2 : decide ((i : Int) ≤ 16) = true := decide_eq_true (by omega)
        have e3 : decide ((i : Int) ≤ 8) = true := decide_eq_true (by omega)
        clear hc d1 d2 d3 hi hcc
        go_wp2_with fail
        refine HM.out.mono ?_
        rintro e W7 ⟨rfl, B7, s0, s1, s2, s3, s4, s5, s6, s7⟩
        have B8 := HW.out W7 B7
        go_wp2_with fail
        refine B8.mono ?_
        rintro e W8 ⟨rfl, B9⟩
        go_wp2
        go_ret
        exact ⟨rfl, hB6.trans (B9.mono hB6.size)⟩
      · have d1 : decide (1 ≤ i) = true := decide_eq_true (by omega)
        have d2 : decide (i ≤ 16) = true := decide_eq_true (by omega)
        have d3 : decide (i ≤ 8) = false := decide_eq_false (by omega)
        rw [d1, d2] at HM
        rw [d1, d3] at HW
        have e1 : decide ((1 : Int) ≤ (i : Int)) = true := decide_eq_true (by omega)
        have e2 : decide ((i : Int) ≤ 16) = true := decide_eq_true (by omega)
        have e3 : decide ((i : Int) ≤ 8) = false := decide_eq_false (by omega)
        clear hc d1 d2 d3 hi hcc
        go_wp2_with fail
        refine HM.out.mono ?_
        rintro e W7 ⟨rfl, B7, s0, s1, s2, s3, s4, s5, s6, s7⟩
        have B8 := HW.out W7 B7
        go_wp2_with fail
        refine B8.mono ?_
        rintro e W8 ⟨rfl, B9⟩
        go_wp2
        go_ret
        exact ⟨rfl, hB6.trans (B9.mono hB6.size)⟩
      · have d1 : decide (1 ≤ i) = true := decide_eq_true (by omega)
        have d2 : decide (i ≤ 16) = false := decide_eq_false (by omega)
        have d3 : decide (i ≤ 8) = false := decide_eq_false (by omega)
        rw [d1, d2] at HM
        rw [d1, d3] at HW
        have e1 : decide ((1 : Int) ≤ (i : Int)) = true := decide_eq_true (by omega)
        have e2 : decide ((i : Int) ≤ 16) = false := decide_eq_false (by omega)
        have e3 : decide ((i : Int) ≤ 8) = false := decide_eq_false (by omega)
        clear hc d1 d2 d3 hi hcc
        go_wp2_with fail
        refine HM.out.mono ?_
        rintro e W7 ⟨rfl, B7, s0, s1, s2, s3, s4, s5, s6, s7⟩
        have B8 := HW.out W7 B7
        go_wp2_with fail
        refine B8.mono ?_
        rintro e W8 ⟨rfl, B9⟩
        go_wp2
        go_ret
        exact ⟨rfl, hB6.trans (B9.mono hB6.size)⟩

end Go.Proofs.YtjdplideehlblaaDoor
