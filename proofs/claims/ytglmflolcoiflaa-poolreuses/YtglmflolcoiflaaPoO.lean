/- PoolReuses: the walk. -/
import Derived.Test.YtglmflolcoiflaaPoN
namespace Go.Proofs.Ytglmflolcoiflaa
open Go.RowKit Go.Shelf
set_option linter.unusedVariables false

theorem hrs_len (a m : Int) (j : Nat) : (hrs a m j).length = j := by unfold hrs; simp
theorem hrs_at (a m : Int) (j k : Nat) (h : k < j) : (hrs a m j).getD k 0 = hr a m k := by unfold hrs; simp [List.getD_eq_getElem?_getD, h]
theorem hrs_rev (a m : Int) (j : Nat) : (hrs a m (j + 1)).reverse = [] ++ hr a m j :: (hrs a m j).reverse := by rw [hrs_succ]; simp
theorem hrs_cons (a m : Int) (j : Nat) : ∃ t, hrs a m (j + 1) = hr a m 0 :: t := ⟨_, by unfold hrs; rw [List.range_succ_eq_map, List.map_cons]⟩
theorem hrs_mem {a m x : Int} {j : Nat} (hm : 0 < m) (h : x ∈ hrs a m j) : 1 ≤ x ∧ x ≤ m := by
  obtain ⟨k, _, rfl⟩ := List.mem_map.1 h
  exact hr_in a m k hm
theorem qr_in {a m x : Int} {j : Nat} (hm : 0 < m) (h : x ∈ hrs a m j) : qr a m j x = some (lA, 3) := by
  have := hrs_mem hm h
  unfold qr
  rw [if_pos ⟨this.1, by omega⟩, if_pos h]
theorem bel_drewN (w : World) : ∀ n, Below w.heap.size w (w.drewN n)
  | 0 => Below.refl _ _
  | n + 1 => (bel_drewN w n).drew
theorem cell_at (w5 wr : World) (g k : Nat) (h : w5.heap[g]? = wr.heap[g]?) : w5.cell? ⟨g, k, none⟩ = wr.cell? ⟨g, k, none⟩ := by simp [World.cell?, h]
/-- Behind i - 1 rounds of the first loop. -/
def R1 (w : World) (pb mk : Nat) (M i : Nat) (W : World) : Prop := PI w [] pb mk (2 * (i - 1)) (i - 1) (M : Int) ((i - 1 : Nat) : Int) (qa (i : Int)) [] W
set_option maxRecDepth 100000 in
set_option maxHeartbeats 2000000 in
theorem reuses_walk (x0 x1 : Int) (w : World) : Calls Try.prog 6 #[.int .i64 x0, .int .i64 x1] w fun e w' => e = .returned (.bool true) ∧ Below w.heap.size w w' := by
  have HCA := hidE (fun W => lending_any W)
  obtain ⟨k0, hk0, hb0⟩ := and_mask x0 7 (by decide)
  obtain ⟨a, hk1, hb1⟩ := and_mask x1 1023 (by decide)
  have hb0' : bits BinOp.and IntKind.i64 x0 7 = (k0 : Int) := hb0
  have hb1' : bits BinOp.and IntKind.i64 x1 1023 = (a : Int) := hb1
  obtain ⟨M, hM⟩ : ∃ M : Nat, M = 2 + k0 := ⟨_, rfl⟩
  have hw1 : IntKind.i64.wrap (2 + (k0 : Int)) = (M : Int) := by rw [hM, IntKind.wrap_i64]; omega
  have hM1 : 2 ≤ M := by omega
  have hM2 : M ≤ 9 := by omega
  have HN := hidE (fun W => new_pi (M : Int) (M : Int) W (by omega))
  clear hb0 hb1 hM hk0
  go_enter Try.func6, Try.ntmps6
  go_wp2_with fail
  refine (HCA.out _).mono ?_
  rintro e w1 ⟨rfl, B1⟩
  have HB1 := hidE B1
  clear HCA B1
  go_wp2_with fail
  refine (HN.out _).mono ?_
  rintro e w2 ⟨rfl, C⟩
  generalize hpb : w1.heap.size + 1 = pb at C ⊢
  generalize hmk : w1.heap.size = mk at C
  have HR0 : Hid (R1 w1 pb mk M 1 w2) := by
    show PI _ _ _ _ _ _ _ _ _ _ _
    rw [show qa ((1 : Nat) : Int) = _ from qa_one]
    exact C
  clear HN C hpb hmk
  go_wp2_with fail
  go_loopw [6] (fun vi wr => ∃ i : Nat, 1 ≤ i ∧ i ≤ M + 1 ∧ vi = .int .i64 i ∧ Hid (R1 w1 pb mk M i wr)) (fun vi _ => M + 2 - (intOf vi).toNat)
  case atStart => exact ⟨1, Nat.le_refl _, by omega, rfl, HR0⟩
  case round =>
    clear HR0
    obtain ⟨i, hi1, hi2, rfl, HR⟩ := hrel
    by_cases hlt : i ≤ M
    · have m1 : (i : Int) ≤ (M : Int) := by omega
      have HT := hidE (take_new HR.out lA (by decide) (by omega) (fun y hy => by simp at hy) (by omega) (i : Int) (by omega))
      go_wp2_with fail
      refine HT.out.mono ?_
      rintro e w3 ⟨rfl, C⟩
      replace C := C.new1 (.cells #[.int .i64 (i : Int), .int .i64 0, .bool true] 39)
      have HJ := hidE (joined_yes C (i : Int) (by unfold InR; omega) (by omega) lA (updI_same _ _ _))
      clear HT C HR
      go_wp2_with fail
      refine HJ.out.mono ?_
      rintro e w4 ⟨rfl, C⟩
      rw [qa_step _ (by omega)] at C
      have HC : Hid (R1 w1 pb mk M (i + 1) w4) := by
        have e1 : 2 * (i - 1) + 1 + 1 = 2 * (i + 1 - 1) := by omega
        have e2 : i - 1 + 1 = i + 1 - 1 := by omega
        have e3 : (i : Int) = ((i + 1 - 1 : Nat) : Int) := by omega
        rw [e1, e2, e3] at C
        show PI _ _ _ _ _ _ _ _ _ _ _
        have e4 : ((i + 1 - 1 : Nat) : Int) + 1 = ((i + 1 : Nat) : Int) := by omega
        rw [e4] at C
        exact C
      clear HJ C
      go_wp2
      go_roundw
      case rel => exact ⟨i + 1, by omega, by omega, by go_num, HC⟩
      case measure => simp [intOf]; omega
    · obtain rfl : i = M + 1 := by omega
      have m1 : ¬ ((M + 1 : Nat) : Int) ≤ (M : Int) := by omega
      have HR' : Hid (PI w1 [] pb mk (2 * M) M (M : Int) (M : Int) (qa ((M : Int) + 1)) [] wr) := HR.out
      have HT := hidE (take_full HR'.out lB (by decide) (by omega) (by omega))
      clear HR HR'
      generalize hM3 : ((M + 1 : Nat) : Int) = M3 at *
      clear hM3
      go_wp2_with fail
      refine HT.out.mono ?_
      rintro e w3 ⟨rfl, C⟩
      have hsb := (C.new1 (.cells #[.int .i64 0, .int .i64 0, .bool false] 39)).be.size
      replace C := (C.new1 (.cells #[.int .i64 0, .int .i64 0, .bool false] 39)).newF (.cells #[] 3)
      have hsz : (w3.alloc (.cells #[.int .i64 0, .int .i64 0, .bool false] 39)).heap.size = w3.heap.size + 1 := by simp
      have C2 : PR w1 pb mk (2 * M + 1) M (M : Int) (M : Int) (qr (a : Int) (M : Int) 0) (hrs (a : Int) (M : Int) 0) (hrs (a : Int) (M : Int) 0) (.slice (some ⟨w3.heap.size + 1, 0, none⟩) 0 0) ((w3.alloc (.cells #[.int .i64 0, .int .i64 0, .bool false] 39)).alloc (.cells #[] 3)) := by
        rw [qr_zero]
        rw [← hsz]
        refine ⟨_, _, C, rfl, hsb, .inr ⟨_, 0, rfl, ⟨#[], tblk_new _ _, rfl, Nat.le_refl _, fun j hj => absurd hj (Nat.not_lt_zero _)⟩, Nat.zero_le _⟩⟩
      have HR2 := hidE C2
      clear C C2 hsz HT hsb
      go_wp2_with fail
      go_loopw [11, 12] (fun vr vj wr => ∃ j : Nat, j ≤ M ∧ vj = .int .i64 j ∧ Hid (PR w1 pb mk (2 * M + 1 + 2 * j) M (M : Int) (M : Int) (qr (a : Int) (M : Int) j) (hrs (a : Int) (M : Int) j) (hrs (a : Int) (M : Int) j) vr wr)) (fun vr vj _ => M + 1 - (intOf vj).toNat)
      case atStart => exact ⟨0, Nat.zero_le _, rfl, HR2⟩
      case round =>
        clear HR2
        obtain ⟨j, hj, rfl, HR⟩ := hrel
        by_cases hlt2 : j < M
        · have m2 : (j : Int) < (M : Int) := by omega
          have hh : wrap64 (1 + ((a : Int) + (j : Int)) % (M : Int)) = hr (a : Int) (M : Int) j := by
            have := hr_in (a : Int) (M : Int) j (by omega)
            unfold hr at this ⊢
            unfold wrap64
            omega
          obtain ⟨g, o, s, g1, g2, g3⟩ := HR.out
          have hin := hr_in (a : Int) (M : Int) j (by omega)
          have hl : (hrs (a : Int) (M : Int) j).length = j := by unfold hrs; simp
          have HY := hidE (rest_yes s (hr (a : Int) (M : Int) j) (by unfold InR; omega) (by omega) lA (qr_at _ _ _ (by omega) m2))
          have HS := hidE s
          obtain ⟨av, cv, hvv⟩ : ∃ av cv, u11 = Value.slice av (hrs (a : Int) (M : Int) j).length cv := by
            rcases g3 with ⟨hv, hr⟩ | ⟨g, c, hv, _⟩
            · exact ⟨none, 0, by rw [hv, hr]; rfl⟩
            · exact ⟨_, c, hv⟩
          have HG := hidE (And.intro g1 (And.intro g2 (And.intro g3 (And.intro hin hl))))
          clear s g1 g2 g3 HR hin
          go_wp2_with fail
          simp only [hh]
          refine HY.out.mono ?_
          rintro e w4 ⟨rfl, C⟩
          have HNO := hidE (rest_no C (hr (a : Int) (M : Int) j) (by have := HG.out.2.2.2.1; unfold InR; omega) (by omega) (by rw [updI_same]; show (3 : Int) ≠ 2; decide))
          clear HY C
          go_wp2_with fail
          refine HNO.out.mono ?_
          rintro e w5 ⟨rfl, C⟩
          have P5 := PR.call HS.out HG.out.1 HG.out.2.1 HG.out.2.2.1 C
          rw [qr_step _ _ _ (by omega), ← hrs_succ] at P5
          obtain ⟨v', W', ra, P6, ⟨a', c', hv'⟩⟩ := P5.append (hr (a : Int) (M : Int) j) (by omega)
          rw [← hrs_succ] at P6
          have HP6 : Hid (PR w1 pb mk (2 * M + 1 + 2 * (j + 1)) M (M : Int) (M : Int) (qr (a : Int) (M : Int) (j + 1)) (hrs (a : Int) (M : Int) (j + 1)) (hrs (a : Int) (M : Int) (j + 1)) v' W') := by
            rw [show 2 * M + 1 + 2 * (j + 1) = 2 * M + 1 + 2 * j + 1 + 1 from by omega]
            exact P6
          subst hv' hvv
          rw [hl] at *
          clear HNO C P5 P6 HS HG hl
          generalize hr (a : Int) (M : Int) j = h at *
          go_wp2_with (at_builtin; refine wpList_append_run2 rfl _ _ 76 76 rfl _ _ _ W' rfl rfl ra ?_)
          go_roundw
          case rel => exact ⟨j + 1, by omega, by go_num, HP6⟩
          case measure => simp [intOf]; omega
        · obtain rfl : j = M := by omega
          obtain ⟨lm, rfl⟩ : ∃ lm, j = lm + 2 := ⟨j - 2, by omega⟩
          generalize hMM : ((lm + 2 : Nat) : Int) = MI at *
          obtain ⟨g, o, s, g1, g2, g3⟩ := HR.out
          have hl := hrs_len (a : Int) MI (lm + 2)
          obtain ⟨c, hv, hN, hc⟩ : ∃ c, u11 = Value.slice (some ⟨g, 0, none⟩) (lm + 2) c ∧ NI wr g c (hrs (a : Int) MI (lm + 2)) ∧ c ≤ maxLen := by
            rcases g3 with ⟨_, hr⟩ | ⟨g', c, hv, hN, hc⟩
            · rw [hr] at hl; cases hl
            · rw [hv] at g1
              cases g1
              rw [hl] at hv
              exact ⟨c, hv, hN, hc⟩
          subst hv
          obtain ⟨t0, ht0⟩ := hrs_cons (a : Int) MI (lm + 1)
          have ml : hr (a : Int) MI (lm + 1) ∈ hrs (a : Int) MI (lm + 2) := List.mem_map.2 ⟨lm + 1, List.mem_range.2 (by omega), rfl⟩
          have m0 : hr (a : Int) MI 0 ∈ hrs (a : Int) MI (lm + 2) := List.mem_map.2 ⟨0, List.mem_range.2 (by omega), rfl⟩
          have hne : hr (a : Int) MI 0 ≠ hr (a : Int) MI (lm + 1) := hr_ne _ _ _ _ (by omega) (by omega)
          have i0 := hr_in (a : Int) MI 0 (by omega)
          have il := hr_in (a : Int) MI (lm + 1) (by omega)
          have q0 := qr_in (show 0 < MI by omega) m0
          have ql := qr_in (show 0 < MI by omega) ml
          have at0 := hN.at 0 (by omega)
          have atl := hN.at (lm + 1) (by omega)
          rw [hrs_at _ _ _ _ (by omega)] at at0 atl
          have HT := hidE (take_old s lA (by decide) (by omega) [] (hr (a : Int) MI (lm + 1)) (hrs (a : Int) MI (lm + 1)).reverse (hrs_rev _ _ _) (fun y hy => by simp at hy) (by unfold neA; rw [ql]; show ¬ ((ByteArray.toList lA == ByteArray.toList lA) = false); rw [tlA]; decide))
          generalize hxl : hr (a : Int) MI (lm + 1) = xl at *
          generalize hx0 : hr (a : Int) MI 0 = x0 at *
          obtain ⟨o', ho'⟩ : ∃ o', wr.heap[g]? = some o' := ⟨_, (s.fr _ (List.mem_singleton.2 rfl)).1⟩
          have hfr := (s.fr _ (List.mem_singleton.2 rfl)).1
          have HA := hidE (And.intro hN (And.intro hfr (And.intro at0 (And.intro atl (And.intro hne (And.intro i0 (And.intro il (And.intro q0 (And.intro ql (And.intro hl ht0))))))))))
          have m2 : ¬ MI < MI := by omega
          clear s g1 g2 g3 HR hN hfr at0 atl hne i0 il q0 ql hl ht0 ml m0 ho' hxl hx0
          go_wp2_with fail
          refine HT.out.mono ?_
          rintro e w3 ⟨rfl, C⟩
          have efl : ∃ r', List.filter (butH xl) (hrs (a : Int) MI (lm + 2)) = x0 :: r' ∧ ∀ y ∈ x0 :: r', y ≠ xl ∧ y ∈ hrs (a : Int) MI (lm + 2) := by
            obtain ⟨-, -, -, -, hne, -, -, -, -, -, ht0⟩ := HA.out
            refine ⟨_, by rw [ht0, List.filter_cons, if_pos (by simp [butH, hne])], fun y hy => ?_⟩
            have : y ∈ List.filter (butH xl) (hrs (a : Int) MI (lm + 2)) := by rw [ht0, List.filter_cons, if_pos (by simp [butH, hne])]; exact hy
            have := (mem_but _ _ _).1 this
            exact ⟨this.2, this.1⟩
          obtain ⟨r', er', hr'⟩ := efl
          rw [er'] at C
          replace C := C.newF (.cells #[.int .i64 xl, .int .i64 0, .bool false] 39)
          have H5 := hidE (take_out C lB (by decide) (by omega) (fun y hy => by
            obtain ⟨h1, h2⟩ := hr' y hy
            unfold neA; rw [updI_other _ _ h1, qr_in (by omega) h2]; show (ByteArray.toList lA == ByteArray.toList lB) = false; rw [tlA, tlB]; decide) (by omega) (MI + 1) rfl)
          clear HT C er' hr'
          go_wp2_with fail
          refine H5.out.mono ?_
          rintro e w4 ⟨rfl, C⟩
          clear H5
          obtain ⟨w5, hw5⟩ : ∃ w5, w5 = w4.alloc (.cells #[.int .i64 (MI + 1), .int .i64 x0, .bool true] 39) := ⟨_, rfl⟩
          replace C := C.newF (.cells #[.int .i64 (MI + 1), .int .i64 x0, .bool true] 39)
          rw [← hw5] at C
          have y1 := (C.fr _ (List.mem_cons_self ..)).1
          have y2 := (C.fr _ (List.mem_cons_of_mem _ (List.mem_cons_self ..))).1
          have y3 := (C.fr _ (List.mem_cons_of_mem _ (List.mem_cons_of_mem _ (List.mem_cons_self ..)))).1
          obtain ⟨hN, hfr, at0, atl, hne, i0, il, q0, ql, hl, ht0⟩ := HA.out
          have hN5 : NI w5 g c (hrs (a : Int) MI (lm + 2)) := hN.move (y3.trans hfr.symm)
          have v0 : w5.cell? ⟨w4.heap.size, 0, none⟩ = some (.int .i64 (MI + 1)) := tblk_cell y1 rfl
          have v1 : w5.cell? ⟨w4.heap.size, 1, none⟩ = some (.int .i64 x0) := tblk_cell y1 rfl
          have v2 : w5.cell? ⟨w4.heap.size, 2, none⟩ = some (.bool true) := tblk_cell y1 rfl
          have z0 : w5.cell? ⟨w3.heap.size, 0, none⟩ = some (.int .i64 xl) := tblk_cell y2 rfl
          have z1 : w5.cell? ⟨w3.heap.size, 1, none⟩ = some (.int .i64 0) := tblk_cell y2 rfl
          have z2 : w5.cell? ⟨w3.heap.size, 2, none⟩ = some (.bool false) := tblk_cell y2 rfl
          have u0 : w5.cell? ⟨g, 0, none⟩ = some (.int .i64 x0) := by rw [cell_at w5 wr g 0 (y3.trans hfr.symm)]; exact at0
          have u1 : w5.cell? ⟨g, lm + 1, none⟩ = some (.int .i64 xl) := by rw [cell_at w5 wr g (lm + 1) (y3.trans hfr.symm)]; exact atl
          have hs1 : IntKind.i64.wrap (MI - 1) = ((lm + 1 : Nat) : Int) := by rw [IntKind.wrap_i64]; omega
          have hs2 : IntKind.i64.wrap (MI + 1) = MI + 1 := by rw [IntKind.wrap_i64]; omega
          have hs3 : ((lm + 1 : Nat) : Int) < ((lm + 2 : Nat) : Int) := by omega
          have hs4 : (0 : Int) < ((lm + 2 : Nat) : Int) := by omega
          have hlen : (lm + 2 : Nat) ≤ maxLen := by unfold maxLen; omega
          have HG : Hid (∀ W : World, W.heap[g]? = some o → W.cell? ⟨g, 0, none⟩ = some (.int .i64 x0)) := fun W hW => by rw [cell_at W wr g 0 (hW.trans hfr.symm)]; exact at0
          generalize hqf : updI (updI (updI (qr (a : Int) MI (lm + 2)) xl (some ((lookH (qr (a : Int) MI (lm + 2) xl)).1, 2))) x0 none) (MI + 1) (some (lB, 1)) = qf at C
          have hq1 : qf x0 = none := by rw [← hqf, updI_other _ _ (by omega), updI_same]
          have hq2 : qf (MI + 1) = some (lB, 1) := by rw [← hqf, updI_same]
          generalize List.filter (butH x0) (x0 :: r') = rf at C
          have CD := hidE (fun nq => C.bel (bel_drewN w5 nq))
          have H1 := hidE (fun nq => state_pi (CD.out nq) x0 (by unfold InR; omega) 0 (by rw [hq1]; rfl))
          have H2 := hidE (fun nq => aim_pi (CD.out nq) x0 (by unfold InR; omega) ⟨#[]⟩ (by rw [hq1]; rfl))
          have HQ := hidE (And.intro hq1 (And.intro hq2 (And.intro i0 hMM)))
          have e0 : ByteArray.toList ⟨#[]⟩ = [] := by kernel_rfl
          have m3 : ((lm + 2 : Nat) : Int) = MI := hMM
          generalize hk1 : lm + 1 = k1 at *
          generalize hk2 : lm + 2 = k2 at *
          have HK2 := hidE m3
          have HC0 := hidE C
          clear m3
          have HB2 : Hid (k2 ≤ 9 ∧ 1 ≤ x0 ∧ x0 ≤ MI) := ⟨by omega, i0.1, i0.2⟩
          clear hk1 hk2 hMM y1 y2 y3 C hN hfr at0 atl hne i0 il q0 ql hl ht0 hN5 hqf hq1 hq2 HA hj hM1 hM2 hi1 hi2 hlt hlt2 m1 m2
          go_wp2_with fail
          rw [← hw5]
          clear hw5
          go_quiet (fail)
          clear v0 v1 v2 z0 z1 z2 u1 hs1 hs3
          go_wp2_with fail
          refine (H1.out _).mono ?_
          rintro e w6 ⟨rfl, rfl⟩
          clear H1
          go_wp2_with fail
          refine (H2.out _).mono ?_
          rintro e w6 ⟨rfl, C⟩
          have u0 := HG.out w6 (C.fr (g, o) (by simp)).1
          have H3 := hidE (state_pi C (MI + 1) (by unfold InR; have := HK2.out; have := HB2.out; omega) 1 (by rw [HQ.out.2.1]; rfl))
          have H4 := hidE (len_pi C)
          rw [HK2.out] at H4
          have H5 := hidE (joined_no C x0 (by unfold InR; have := HK2.out; have := HB2.out; omega) (by have := HB2.out; omega) (by rw [HQ.out.1]; show (0 : Int) ≠ 1; decide))
          clear H2 C
          go_wp2_with fail
          refine H3.out.mono ?_
          rintro e w7 ⟨rfl, rfl⟩
          clear H3
          go_wp2_with fail
          refine H4.out.mono ?_
          rintro e w7 ⟨rfl, rfl⟩
          clear H4
          go_wp2_with fail
          refine H5.out.mono ?_
          rintro e w7 ⟨rfl, C⟩
          have u0' := HG.out w7 (C.fr (g, o) (by simp)).1
          have H6 := hidE (rest_no C x0 (by unfold InR; have := HK2.out; have := HB2.out; omega) (by have := HB2.out; omega) (by rw [HQ.out.1]; show (0 : Int) ≠ 2; decide))
          clear H5 C u0
          go_wp2_with fail
          refine H6.out.mono ?_
          rintro e w8 ⟨rfl, C⟩
          have HZ := hidE C.be
          clear H6 C u0'
          go_wp2
          go_ret
          exact ⟨by simp, HB1.out.trans (HZ.out.mono HB1.out.size)⟩
end Go.Proofs.Ytglmflolcoiflaa
