/- slices.CompactFunc of flows: neighbours of one connection. -/
import Derived.Test.YtnfpbkllpkbdiaaRbE
namespace Go.Proofs.Ytnfpbkllpkbdiaa
open Go.RowKit
set_option linter.unusedVariables false

/-- Clearing a row's end, in one step. -/
theorem clear_end {B : Nat} {u w : World} {g off c : Nat} {M : List Fl} (h : FO w g off c M) (hg : B ≤ g) (hb : Below B u w) (k : Nat) (hk : k < M.length) (ty : TypeId) :
    ∃ w', (Builtin.clear_ #[22] ty #[.slice (some ⟨g, off + k * 2, none⟩) (M.length - k) (c - k)]).run Try.prog w = .ok (.tuple #[]) w' ∧ FO w' g off c (M.take k) ∧ Below B u w' := by
  have hl := h.len
  obtain ⟨zs, hz, hr⟩ := run_clear_flows w ty g (off + k * 2) (M.length - k) (c - k) (by omega) (fun j hj => h.here _ (by omega)) (fun j _ => h.z _)
  exact ⟨_, hr, h.clear k (by omega) zs hz, setCells_below g hg zs _ hb⟩
set_option maxRecDepth 100000 in
set_option maxHeartbeats 4000000 in
theorem rbcompact_any (s : List Fl) (B g off c : Nat) (w : World) (hl : s.length ≤ 1000000) (hF : FO w g off c s) (hg : B ≤ g) (hc : c ≤ 9223372036854775807) (hBs : B ≤ w.heap.size) :
    Calls Try.prog 15 #[.slice (some ⟨g, off, none⟩) s.length c, .func (.func 16) #[] #[]] w fun e w' => e = .returned (.slice (some ⟨g, off, none⟩) (cpt s s.length).length c) ∧ FO w' g off c (cpt s s.length) ∧ Below B w w' := by
  have HQ : Hid (∀ (x y : Fl) (W : World), Calls Try.prog 16 #[.agg #[.int .i64 x.1, .int .i64 x.2], .agg #[.int .i64 y.1, .int .i64 y.2]] W fun e w' => e = .returned (.bool (x.1 == y.1)) ∧ Below W.heap.size W w') := fun x y W => rbeq_any _ _ _ _ W
  have HS0 : Hid (FO w g off c s) := hF
  have hlc := hF.len
  by_cases h2 : s.length < 2
  · have he : cpt s s.length = s := by
      match s, h2 with
      | [], _ => rfl
      | [x], _ => rfl
    rw [he]
    have d2 : decide (s.length < 2) = true := decide_eq_true h2
    clear hF he hl
    generalize s.length = n at *
    go_enter Try.func15, Try.ntmps15
    go_wp2
    go_ret
    exact ⟨rfl, HS0.out, Below.refl _ _⟩
  · obtain ⟨n, hn⟩ : ∃ n, n = s.length := ⟨_, rfl⟩
    have HN : Hid (s.length = n) := hn.symm
    rw [← hn] at hlc h2 ⊢
    have hn0 : n ≤ 1000000 := by omega
    have d2 : decide (n < 2) = false := decide_eq_false h2
    clear hn hl hF
    go_enter Try.func15, Try.ntmps15
    go_wp2_with fail
    go_loopw [5] (fun vk wr => ∃ k : Nat, 1 ≤ k ∧ k ≤ n ∧ vk = .int .i64 k ∧ Hid (FO wr g off c s) ∧ Hid (cpt s k = s.take k) ∧ Hid (Below B w wr)) (fun vk _ => n - (intOf vk).toNat)
    case atStart => exact ⟨1, Nat.le_refl _, by omega, rfl, HS0, by
      obtain ⟨x, t, rfl⟩ : ∃ x t, s = x :: t := by
        cases s with
        | nil => exact absurd HN.out (by simp; omega)
        | cons x t => exact ⟨x, t, rfl⟩
      rfl, Below.refl _ _⟩
    case round =>
      obtain ⟨k, hk1, hkn, rfl, HS, HT, HB⟩ := hrel
      by_cases hlt : k < n
      · obtain ⟨j, hj⟩ : ∃ j, k = j + 1 := ⟨k - 1, by omega⟩
        have hsl : j + 1 < s.length := by rw [HN.out]; omega
        have HC4 := HS.out.c4 j hsl
        have HCM : Hid (∀ W, Below wr.heap.size wr W → Calls Try.prog 16 #[.agg #[.int .i64 (s.getD (j + 1) (0, 0)).1, .int .i64 (s.getD (j + 1) (0, 0)).2], .agg #[.int .i64 (s.getD j (0, 0)).1, .int .i64 (s.getD j (0, 0)).2]] W fun e w' => e = .returned (.bool ((s.getD (j + 1) (0, 0)).1 == (s.getD j (0, 0)).1)) ∧ Below wr.heap.size wr w' ∧ C4 w' g off (j + 1) j (s.getD (j + 1) (0, 0)) (s.getD j (0, 0))) := fun W b => by
          refine (HQ.out _ _ W).mono fun e w' he => ?_
          have b2 := b.trans (he.2.mono b.size)
          exact ⟨he.1, b2, (HS.out.below b2 HS.out.lt).c4 j hsl⟩
        have HY : Hid (((s.getD (j + 1) (0, 0)).1 == (s.getD j (0, 0)).1) = true → cpt s (j + 2) = cpt s (j + 1)) := fun q => cpt_eq (by simpa using q)
        have HNO : Hid (((s.getD (j + 1) (0, 0)).1 == (s.getD j (0, 0)).1) = false → cpt s (j + 2) = s.take (j + 2)) := fun q => by
          rw [cpt_ne (by simpa using q), take_snoc s (j + 1) hsl, ← hj, HT.out, hj]
        have HJ : Hid (k = j + 1) := hj
        have U0 : Below wr.heap.size wr wr := Below.refl _ _
        rw [← hj] at HC4 HCM HY HNO
        have m1 : (0 : Int) ≤ k := by omega
        have m2 : (k : Int) < n := by omega
        have m3 : (0 : Int) ≤ j := by omega
        have m4 : (j : Int) < n := by omega
        have m5 : IntKind.i64.wrap ((k : Int) - 1) = (j : Int) := by rw [IntKind.wrap_i64]; omega
        clear hj
        generalize ((s.getD k (0, 0)).1 == (s.getD j (0, 0)).1) = b at *
        generalize s.getD k (0, 0) = x at *
        generalize s.getD j (0, 0) = y at *
        obtain ⟨x0, x1⟩ := x
        obtain ⟨y0, y1⟩ := y
        unfold C4 at HC4 HCM
        simp only at HC4 HCM
        obtain ⟨a0, a1, a2, a3⟩ := HC4
        go_wp2_with fail
        go_region_held3 (fun W => W.cell? ⟨g, off + k * 2, none⟩ = some (.int .i64 x0) ∧ W.cell? ⟨g, off + k * 2 + 1, none⟩ = some (.int .i64 x1) ∧ W.cell? ⟨g, off + j * 2, none⟩ = some (.int .i64 y0) ∧ W.cell? ⟨g, off + j * 2 + 1, none⟩ = some (.int .i64 y1)) (go_keep) (first | (go_at_call 16; refine (HCM.out _ (by first | assumption | exact U0.drew)).mono ?_; rintro e w' ⟨rfl, hB, hS⟩))
        have HS' : Hid (FO w' g off c s) := HS.out.below hB HS.out.lt
        have HB' : Hid (Below B w w') := HB.out.trans (hB.mono (Nat.le_trans hBs HB.out.size))
        clear HS HB HCM U0 a0 a1 a2 a3 hS
        cases b with
        | false =>
          have HT' : Hid (cpt s (k + 1) = s.take (k + 1)) := by have := HNO.out rfl; rw [HJ.out]; exact this
          clear HY HNO HT
          go_wp2
          go_roundw
          case rel => exact ⟨k + 1, by omega, by omega, by go_num, HS', HT', HB'⟩
          case measure => simp [intOf]; omega
        | true =>
          have hck : ¬ c = k := by omega
          have hkc : (k : Int) ≤ (c : Int) := by omega
          have hkn2 : (k : Int) ≤ (n : Int) := by omega
          have HM0 : Hid (MvU s s (k + 1) (cpt s (k + 1))) := by
            have e : cpt s (k + 1) = s.take k := by rw [← HT.out]; have := HY.out rfl; rw [HJ.out] at this ⊢; exact this
            have hl : (s.take k).length = k := by rw [List.length_take, HN.out]; omega
            rw [e]
            exact ⟨rfl, by rw [hl], by rw [hl]; omega, fun _ _ => rfl⟩
          have HK0 : Hid ((cpt s (k + 1)).length = k) := by
            have e : cpt s (k + 1) = s.take k := by rw [← HT.out]; have := HY.out rfl; rw [HJ.out] at this ⊢; exact this
            rw [e, Hid, List.length_take, HN.out]; omega
          clear HY HNO HT m1 m2 m3 m4 m5 HJ hkn
          go_wp2_with fail
          go_loopw [5, 7] (fun vk v2 wr => ∃ (i kk : Nat) (M : List Fl), 1 ≤ i ∧ k + i ≤ n ∧ v2 = .int .i64 i ∧ vk = .int .i64 kk ∧ Hid ((cpt s (k + i)).length = kk) ∧ Hid (FO wr g off c M) ∧ Hid (MvU s M (k + i) (cpt s (k + i))) ∧ Hid (Below B w wr)) (fun _ v2 _ => n - (intOf v2).toNat)
          case atStart => exact ⟨1, k, s, Nat.le_refl _, by omega, rfl, rfl, HK0, HS', HM0, HB'⟩
          case round =>
            clear HS' HB' HM0 HK0
            obtain ⟨i, kk, M, hi1, hin, rfl, rfl, HKK, HS, HM, HB⟩ := hrel
            have hkk : kk < k + i := by have := HM.out.2.2.1; rw [HKK.out] at this; exact this
            have HML : Hid (M.length = n) := HM.out.1.trans HN.out
            by_cases hlt2 : k + i < n
            · obtain ⟨j, hj⟩ : ∃ j, i = j + 1 := ⟨i - 1, by omega⟩
              have hD := HS.out.drop k (by omega)
              have hdl : j + 1 < (M.drop k).length := by rw [List.length_drop, HML.out]; omega
              have e1 : (M.drop k).getD (j + 1) (0, 0) = s.getD (k + j + 1) (0, 0) := by
                rw [show (M.drop k).getD (j + 1) (0, 0) = M.getD (k + j + 1) (0, 0) by simp [List.getD_eq_getElem?_getD, Nat.add_assoc]]
                exact HM.out.2.2.2 _ (by omega)
              have e2 : (M.drop k).getD j (0, 0) = s.getD (k + j) (0, 0) := by
                rw [show (M.drop k).getD j (0, 0) = M.getD (k + j) (0, 0) by simp [List.getD_eq_getElem?_getD]]
                exact HM.out.2.2.2 _ (by omega)
              have HC4 := hD.c4 j hdl
              rw [e1, e2] at HC4
              have HCM : Hid (∀ W, Below wr.heap.size wr W → Calls Try.prog 16 #[.agg #[.int .i64 (s.getD (k + j + 1) (0, 0)).1, .int .i64 (s.getD (k + j + 1) (0, 0)).2], .agg #[.int .i64 (s.getD (k + j) (0, 0)).1, .int .i64 (s.getD (k + j) (0, 0)).2]] W fun e w' => e = .returned (.bool ((s.getD (k + j + 1) (0, 0)).1 == (s.getD (k + j) (0, 0)).1)) ∧ Below wr.heap.size wr w' ∧ C4 w' g (off + k * 2) (j + 1) j (s.getD (k + j + 1) (0, 0)) (s.getD (k + j) (0, 0))) := fun W b => by
                refine (HQ.out _ _ W).mono fun e w' he => ?_
                have b2 := b.trans (he.2.mono b.size)
                have q := (hD.below b2 hD.lt).c4 j hdl
                rw [e1, e2] at q
                exact ⟨he.1, b2, q⟩
              have HY : Hid (((s.getD (k + j + 1) (0, 0)).1 == (s.getD (k + j) (0, 0)).1) = true → cpt s (k + j + 2) = cpt s (k + j + 1)) := fun q => cpt_eq (by simpa using q)
              have HNO : Hid (((s.getD (k + j + 1) (0, 0)).1 == (s.getD (k + j) (0, 0)).1) = false → cpt s (k + j + 2) = cpt s (k + j + 1) ++ [s.getD (k + j + 1) (0, 0)]) := fun q => cpt_ne (by simpa using q)
              have HJ : Hid (k + i = k + j + 1) := by rw [hj]; rfl
              have HJ2 : Hid (i = j + 1) := hj
              have U0 : Below wr.heap.size wr wr := Below.refl _ _
              rw [← hj] at HC4 HCM
              have m1 : (0 : Int) ≤ i := by omega
              have m2 : (i : Int) < ((n - k : Nat) : Int) := by omega
              have m3 : (0 : Int) ≤ j := by omega
              have m4 : (j : Int) < ((n - k : Nat) : Int) := by omega
              have m5 : IntKind.i64.wrap ((i : Int) - 1) = (j : Int) := by rw [IntKind.wrap_i64]; omega
              have m6 : (0 : Int) ≤ kk := by omega
              have m7 : (kk : Int) < (n : Int) := by omega
              clear hj e1 e2 hD hdl
              generalize hb : ((s.getD (k + j + 1) (0, 0)).1 == (s.getD (k + j) (0, 0)).1) = b at *
              generalize hx : s.getD (k + j + 1) (0, 0) = x at *
              generalize s.getD (k + j) (0, 0) = y at *
              have HX : Hid (s.getD (k + j + 1) (0, 0) = x) := hx
              obtain ⟨x0, x1⟩ := x
              obtain ⟨y0, y1⟩ := y
              clear hb hx
              unfold C4 at HC4 HCM
              simp only at HC4 HCM
              obtain ⟨a0, a1, a2, a3⟩ := HC4
              go_wp2_with fail
              go_region_held3 (fun W => W.cell? ⟨g, off + k * 2 + i * 2, none⟩ = some (.int .i64 x0) ∧ W.cell? ⟨g, off + k * 2 + i * 2 + 1, none⟩ = some (.int .i64 x1) ∧ W.cell? ⟨g, off + k * 2 + j * 2, none⟩ = some (.int .i64 y0) ∧ W.cell? ⟨g, off + k * 2 + j * 2 + 1, none⟩ = some (.int .i64 y1)) (go_keep) (first | (go_at_call 16; refine (HCM.out _ (by first | assumption | exact U0.drew)).mono ?_; rintro e w' ⟨rfl, hB, hS⟩))
              have HS' : Hid (FO w' g off c M) := HS.out.below hB HS.out.lt
              have HB' : Hid (Below B w w') := HB.out.trans (hB.mono (Nat.le_trans hBs HB.out.size))
              clear HS HB HCM U0 a0 a1 a2 a3
              cases b with
              | true =>
                have HE1 : Hid (cpt s (k + (i + 1)) = cpt s (k + i)) := by have := HY.out rfl; rw [Hid, HJ.out, show k + (i + 1) = k + j + 2 by have := HJ2.out; omega]; exact this
                have HM' : Hid (MvU s M (k + (i + 1)) (cpt s (k + (i + 1)))) := by rw [HE1.out]; exact HM.out.skip
                have HK' : Hid ((cpt s (k + (i + 1))).length = kk) := by rw [HE1.out]; exact HKK.out
                clear HY HNO HM HKK hS
                go_wp2
                go_roundw
                case rel => exact ⟨i + 1, kk, M, by omega, by omega, by go_num, rfl, HK', HS', HM', HB'⟩
                case measure => simp [intOf]; omega
              | false =>
                have HE1 : Hid (cpt s (k + (i + 1)) = cpt s (k + i) ++ [(x0, x1)]) := by have := HNO.out rfl; rw [Hid, HJ.out, show k + (i + 1) = k + j + 2 by have := HJ2.out; omega]; exact this
                have HM' : Hid (MvU s (M.set kk (x0, x1)) (k + (i + 1)) (cpt s (k + (i + 1)))) := by
                  have q := HM.out.move (by rw [HN.out]; exact hlt2)
                  rw [HJ.out, HX.out, ← HJ.out, HKK.out] at q
                  rw [HE1.out]; exact q
                have HK' : Hid ((cpt s (k + (i + 1))).length = kk + 1) := by rw [HE1.out, Hid, List.length_append, HKK.out]; rfl
                have hkl : kk < M.length := by rw [HML.out]; omega
                have c0 := HS'.out.c0 kk hkl
                have c1 := HS'.out.c1 kk hkl
                have z0 := HS'.out.z (off + kk * 2)
                have z1 := HS'.out.z (off + kk * 2 + 1)
                have HS2 : Hid (FO ((w'.setCell ⟨g, off + kk * 2, none⟩ (.int .i64 x0)).setCell ⟨g, off + kk * 2 + 1, none⟩ (.int .i64 x1)) g off c (M.set kk (x0, x1))) := HS'.out.set kk hkl x0 x1
                have HB2 : Hid (Below B w ((w'.setCell ⟨g, off + kk * 2, none⟩ (.int .i64 x0)).setCell ⟨g, off + kk * 2 + 1, none⟩ (.int .i64 x1))) := (HB'.out.setCell (p := ⟨g, off + kk * 2, none⟩) hg _).setCell (p := ⟨g, off + kk * 2 + 1, none⟩) hg _
                obtain ⟨a0, a1, a2, a3⟩ := hS
                clear HY HNO HM HKK hkl HS' HB'
                go_wp2
                go_roundw
                case rel => exact ⟨i + 1, kk + 1, _, by omega, by omega, by go_num, by go_num, HK', HS2, HM', HB2⟩
                case measure => simp [intOf]; omega
            · obtain rfl : n = k + i := by omega
              have hkl : kk < M.length := by rw [HML.out]; omega
              have HO : Hid (M.take kk = cpt s (k + i)) := by have := HM.out.2.1; rw [HKK.out] at this; exact this
              obtain ⟨w2, r2, F2, B2⟩ := clear_end HS.out hg HB.out kk hkl 0
              rw [HML.out] at r2
              have HF2 : Hid (FO w2 g off c (cpt s (k + i))) := by rw [← HO.out]; exact F2
              have hck2 : ¬ c = kk := by omega
              have m6 : (0 : Int) ≤ kk := by omega
              have m7 : (kk : Int) ≤ ((k + i : Nat) : Int) := by omega
              have m8 : (kk : Int) ≤ (c : Int) := by omega
              clear F2 HS HB HM hkl HO
              go_wp2_with (at_builtin; refine wpList_clear_run rfl _ 22 rfl _ _ w2 rfl r2 ?_)
              go_ret
              exact ⟨by rw [HKK.out]; rfl, HF2.out, B2⟩
      · obtain rfl : k = n := by omega
        have HE1 : Hid (cpt s k = s) := by rw [HT.out, ← HN.out]; exact List.take_length
        go_wp2
        go_ret
        exact ⟨by rw [HE1.out, HN.out]; rfl, by rw [HE1.out]; exact HS.out, HB.out⟩
end Go.Proofs.Ytnfpbkllpkbdiaa
