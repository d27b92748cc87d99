/- The document's clock: Set, beyond the end of time (written by clw.py). -/
import Derived.Test.YtofnnphpogpcdaaClW
namespace Go.Proofs.Ytofnnphpogpcdaa
open Go.ChangeShapes Go.WideShapes Go.ChangeAt Go.RowKit
set_option linter.unusedVariables false

set_option maxRecDepth 100000 in
set_option maxHeartbeats 2000000 in
theorem set15_hi (now : Int) (L : List Pr) (a : Option Addr) (c : Nat) (id at' : Int) (w : World) (hL : RdR 2 encD w a c L) (hl : L.length ≤ 900000) (hat : decide (1099511627776 < at') = true) :
    Calls Try.prog 13 #[.agg #[.int .i64 now, .slice a L.length c], .int .i64 id, .int .i64 at'] w fun e w' => ∃ v, e = .returned (.agg #[.int .i64 now, v]) ∧ OwR 45 2 encD w.heap.size w' v (insL (id, 1099511627776) (offL id L)) ∧ Below w.heap.size w w' := by
  have B0 : Below w.heap.size w (((w.alloc (.cells #[.int .i64 now, .slice a L.length c] 28)).alloc (.cells #[.int .i64 0, .slice none 0 0] 28)).alloc (.cells #[.int .i64 id, .int .i64 1099511627776] 45)) := (((Below.refl _ _).alloc (Nat.le_refl _) _).alloc (by simp) _).alloc (by simp; omega) _
  obtain ⟨n1, n2, n3⟩ := three_new w (.cells #[.int .i64 now, .slice a L.length c] 28) (.cells #[.int .i64 0, .slice none 0 0] 28) (.cells #[.int .i64 id, .int .i64 1099511627776] 45)
  have S0 : (((w.alloc (.cells #[.int .i64 now, .slice a L.length c] 28)).alloc (.cells #[.int .i64 0, .slice none 0 0] 28)).alloc (.cells #[.int .i64 id, .int .i64 1099511627776] 45)).heap.size = w.heap.size + 3 := by simp
  have HT0 : Hid (TS w now (.slice a L.length c) (id, 1099511627776) (((w.alloc (.cells #[.int .i64 now, .slice a L.length c] 28)).alloc (.cells #[.int .i64 0, .slice none 0 0] 28)).alloc (.cells #[.int .i64 id, .int .i64 1099511627776] 45))) := ⟨n1, n2, n3, B0, by rw [S0]; exact Nat.le_refl _⟩
  have HW := hidE (without15_any L a c id _ (hL.keep B0) (by omega))
  rw [S0] at HW
  have c1 := HT0.out.x.c1
  obtain ⟨R, hR⟩ : ∃ R, R = offL id L := ⟨_, rfl⟩
  have HRL : Hid (R.length ≤ 900000) := by rw [hR]; exact Nat.le_trans (off_len _ _) hl
  rw [← hR] at HW ⊢
  obtain ⟨n, hn⟩ : ∃ n, n = R.length := ⟨_, rfl⟩
  rw [← hn] at HW HRL
  have HN : Hid (R.length = n) := hn.symm
  clear n1 n2 n3 S0 B0 hL hl hR hn
  generalize L.length = m at *
  generalize hasL id L = hb at *
  go_enter Try.func13, Try.ntmps13
  go_wp2_with fail
  refine HW.out.mono ?_
  rintro e w3 ⟨a', c', rfl, O, B⟩
  have HT3 := hidE (HT0.out.keep B)
  obtain ⟨a3, c3, e3, R3, _⟩ := O.rd ED
  rw [HN.out] at e3
  injection e3 with e31 e32 e33
  subst e31 e33
  clear e32
  have HF : Hid (∀ W, Below w3.heap.size w3 W → RdR 2 encD W a' c' R) := fun W b => R3.keep b
  have O0 : Hid (OwR 45 2 encD w3.heap.size (w3.alloc (.cells #[] 45)) (.slice (some ⟨w3.heap.size, 0, none⟩) 0 0) []) := OwR.empty _ _ _ _ _ (Nat.le_refl _)
  have HT4 := hidE (HT3.out.keep ((Below.refl _ _).alloc HT3.out.s (.cells #[] 45)))
  have HI0 := hidE (InsA.start (id, 1099511627776) R)
  have HS3 := hidE HT3.out.s
  clear HW HT0 O R3 B c1 hat HT3
  go_wp2_with fail
  go_loopw [10, 11, 12] (fun v6 v7 vi wr => ∃ (k : Nat) (a6 : Option Addr) (c6 l : Nat) (b : Bool) (o : List Pr), k ≤ n ∧ vi = .int .i64 k ∧ v6 = .slice a6 l c6 ∧ v7 = .bool b ∧ Hid (l = o.length ∧ InsA (id, 1099511627776) R k b o) ∧ Hid (OwR 45 2 encD w3.heap.size wr (.slice a6 l c6) o) ∧ Hid (Below w3.heap.size w3 wr) ∧ Hid (TS w now (.slice a m c) (id, 1099511627776) wr)) (fun _ _ vi _ => n - (intOf vi).toNat)
  case atStart => exact ⟨0, _, _, 0, false, [], Nat.zero_le _, rfl, rfl, rfl, ⟨rfl, HI0⟩, O0, (Below.refl _ _).alloc (Nat.le_refl _) _, HT4⟩
  case round =>
    clear O0 HT4 HI0
    obtain ⟨k, a6, c6, l, b, o, hk, rfl, rfl, rfl, HI, HO, HB, HT⟩ := hrel
    by_cases hlt : k < n
    · have hfw := HF.out wr HB.out
      obtain ⟨p, hp⟩ : ∃ p, R[k]? = some p := ⟨R[k]'(by rw [HN.out]; exact hlt), List.getElem?_eq_getElem _⟩
      obtain ⟨g, off, rfl, hg, hc⟩ := hfw.at hp
      obtain ⟨d0, d1⟩ := hfw.d hp
      have q1 : (0 : Int) ≤ k := by omega
      have q2 : (k : Int) < n := by omega
      have q3 : n ≤ 900000 := HRL.out
      have y0 : wr.cell? ⟨w.heap.size + 1 + 1, 0, none⟩ = some (.int .i64 id) := tblk_cell HT.out.z rfl
      have y1 : wr.cell? ⟨w.heap.size + 1 + 1, 1, none⟩ = some (.int .i64 1099511627776) := tblk_cell HT.out.z rfl
      have HIL : Hid (o.length ≤ 900001) := by have := HI.out.2.len; rw [HN.out] at this; show o.length ≤ 900001; omega
      have HP := hidE hp
      clear hc hfw hg hp
      cases b with
      | true =>
        go_wp2_with fail
        go_quiet (fail)
        have HO8 : OwR 45 2 encD w3.heap.size (wr.drewN nq) (.slice a6 l c6) o := HO.out.move fun _ _ _ _ _ => rfl
        obtain ⟨a7, c7, w7, r7, O7, B7, T7⟩ := set_app HO8 HI.out.1 (below_drewN HB.out nq) (HT.out.drewN nq) HS3.out p (by have := HIL.out; omega)
        have HO7 := hidE O7
        have HI7 : Hid (l + 1 = (o ++ [p]).length ∧ InsA (id, 1099511627776) R (k + 1) true (o ++ [p])) := ⟨snoc_len HI.out.1 p, HI.out.2.done HP.out⟩
        have HT7 := hidE T7
        have HB7 := hidE B7
        clear HT HO HI O7 B7 T7 HB HP y0 y1 HO8
        obtain ⟨x, y⟩ := p
        simp only at d0 d1 r7
        go_wp2_with (at_builtin; refine wpList_append_run2 rfl _ _ 26 26 rfl _ _ _ w7 rfl rfl r7 ?_; clear r7)
        go_roundw
        case rel => exact ⟨k + 1, _, _, l + 1, true, _, by omega, by go_num, rfl, rfl, HI7, HO7, HB7, HT7⟩
        case measure => simp [intOf]; omega
      | false =>
        have HA := hidE (fun W => ahead15_any (id, 1099511627776) p W)
        by_cases hk2 : klt (id, 1099511627776) p
        · have hd : decide (klt (id, 1099511627776) p) = true := decide_eq_true hk2
          rw [hd] at HA
          have HI7 : Hid (l + 1 + 1 = (o ++ [(id, 1099511627776)] ++ [p]).length ∧ InsA (id, 1099511627776) R (k + 1) true (o ++ [(id, 1099511627776)] ++ [p])) := ⟨snoc_len (snoc_len HI.out.1 _) p, HI.out.2.now HP.out hk2⟩
          clear hd hk2
          obtain ⟨x, y⟩ := p
          simp only at d0 d1 HA
          go_wp2_with fail
          go_region_with (go_at_call 23; refine (HA.out _).mono ?_; rintro e w5 ⟨rfl, B5⟩)
          all_goals
            have B5' : Below wr.heap.size wr w5 := ⟨B5.os, B5.tape, B5.output, B5.size, B5.block⟩
            have HB5 := HB.out.trans (B5'.mono HB.out.size)
            have T5 := HT.out.keep (B5'.mono HT.out.s)
            obtain ⟨a6', c6', w6, r6, O6, B6, T6⟩ := set_app (HO.out.grow B5') HI.out.1 HB5 T5 HS3.out (id, 1099511627776) (by have := HIL.out; omega)
            have z0 : w5.cell? ⟨w.heap.size + 1 + 1, 0, none⟩ = some (.int .i64 id) := tblk_cell T5.z rfl
            have z1 : w5.cell? ⟨w.heap.size + 1 + 1, 1, none⟩ = some (.int .i64 1099511627776) := tblk_cell T5.z rfl
            obtain ⟨x0, x1⟩ := (HF.out w6 B6).d HP.out
            obtain ⟨a7, c7, w7, r7, O7, B7, T7⟩ := set_app O6 (snoc_len HI.out.1 _) B6 T6 HS3.out (x, y) (by have := HIL.out; rw [List.length_append]; simp; omega)
            have HO7 := hidE O7
            have HT7 := hidE T7
            have HB7 := hidE B7
            simp only at x0 x1 r6 r7
            clear HT HO HI O7 B7 T7 HB HP y0 y1 O6 B6 T6 HB5 T5 B5 B5' d0 d1 HA
            go_wp2_with (first | (at_builtin; refine wpList_append_run2 rfl _ _ 26 26 rfl _ _ _ w6 rfl rfl r6 ?_; clear r6) | (at_builtin; refine wpList_append_run2 rfl _ _ 26 26 rfl _ _ _ w7 rfl rfl r7 ?_; clear r7))
            go_roundw
            case rel => exact ⟨k + 1, _, _, l + 1 + 1, true, _, by omega, by go_num, rfl, rfl, HI7, HO7, HB7, HT7⟩
            case measure => simp [intOf]; omega
        · have hd : decide (klt (id, 1099511627776) p) = false := decide_eq_false hk2
          rw [hd] at HA
          have HI7 : Hid (l + 1 = (o ++ [p]).length ∧ InsA (id, 1099511627776) R (k + 1) false (o ++ [p])) := ⟨snoc_len HI.out.1 p, HI.out.2.not HP.out hk2⟩
          clear hd hk2
          obtain ⟨x, y⟩ := p
          simp only at d0 d1 HA
          go_wp2_with fail
          go_region_with (go_at_call 23; refine (HA.out _).mono ?_; rintro e w5 ⟨rfl, B5⟩)
          all_goals
            have B5' : Below wr.heap.size wr w5 := ⟨B5.os, B5.tape, B5.output, B5.size, B5.block⟩
            have HB5 := HB.out.trans (B5'.mono HB.out.size)
            have T5 := HT.out.keep (B5'.mono HT.out.s)
            obtain ⟨x0, x1⟩ := (HF.out w5 HB5).d HP.out
            obtain ⟨a7, c7, w7, r7, O7, B7, T7⟩ := set_app (HO.out.grow B5') HI.out.1 HB5 T5 HS3.out (x, y) (by have := HIL.out; omega)
            have HO7 := hidE O7
            have HT7 := hidE T7
            have HB7 := hidE B7
            simp only at x0 x1 r7
            clear HT HO HI O7 B7 T7 HB HP y0 y1 HB5 T5 B5 B5' d0 d1 HA
            go_wp2_with (at_builtin; refine wpList_append_run2 rfl _ _ 26 26 rfl _ _ _ w7 rfl rfl r7 ?_; clear r7)
            go_roundw
            case rel => exact ⟨k + 1, _, _, l + 1, false, _, by omega, by go_num, rfl, rfl, HI7, HO7, HB7, HT7⟩
            case measure => simp [intOf]; omega
    · obtain rfl : k = n := by omega
      have k1 := HT.out.x
      have y0 : wr.cell? ⟨w.heap.size + 1 + 1, 0, none⟩ = some (.int .i64 id) := tblk_cell HT.out.z rfl
      have y1 : wr.cell? ⟨w.heap.size + 1 + 1, 1, none⟩ = some (.int .i64 1099511627776) := tblk_cell HT.out.z rfl
      cases b with
      | true =>
        have HE : Hid (insL (id, 1099511627776) R = o) := by have := HI.out.2; rw [← HN.out] at this; exact this.endT
        have HFN := hidE (set_fin HO.out HT.out HS3.out)
        obtain ⟨c0, c1, z1, d0, d1, f0, f1⟩ := set_cells HT.out
        clear HI HO HB HT k1 y0 y1 hlt
        go_wp2
        refine bodyPost_ret (v := .agg #[.int .i64 now, .slice a6 l c6]) (by simp [results, Try.results13, go_sem, d0, d1]) rfl ?_
        exact ⟨_, rfl, by rw [HE.out]; exact HFN.out.1, HFN.out.2⟩
      | false =>
        have HE : Hid (insL (id, 1099511627776) R = o ++ [(id, 1099511627776)]) := by have := HI.out.2; rw [← HN.out] at this; exact this.endF
        have hoL : o.length ≤ 900001 := by have := HI.out.2.len; rw [HN.out] at this; have := HRL.out; omega
        obtain ⟨a7, c7, w7, r7, O7, B7, T7⟩ := set_app HO.out HI.out.1 HB.out HT.out HS3.out (id, 1099511627776) (by omega)
        have HFN := hidE (set_fin O7 T7 HS3.out)
        obtain ⟨c0, c1, z1, d0, d1, f0, f1⟩ := set_cells T7
        simp only at r7
        clear HI HO HB HT k1 hlt O7 B7 T7 hoL
        go_wp2_with (at_builtin; refine wpList_append_run2 rfl _ _ 26 26 rfl _ _ _ w7 rfl rfl r7 ?_; clear r7)
        refine bodyPost_ret (v := .agg #[.int .i64 now, .slice a7 (l + 1) c7]) (by simp [results, Try.results13, go_sem, d0, d1]) rfl ?_
        exact ⟨_, rfl, by rw [HE.out]; exact HFN.out.1, HFN.out.2⟩
end Go.Proofs.Ytofnnphpogpcdaa
