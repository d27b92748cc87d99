/- RobinOrder, walked. -/
import Derived.Test.YtejjljhmlgjlhaaRbT
namespace Go.Proofs.Ytejjljhmlgjlhaa
open Go.RowKit
set_option linter.unusedVariables false

set_option maxRecDepth 100000 in
set_option maxHeartbeats 2000000 in
theorem order_walk (qn tn rn : Int) (a : Option Addr) (len cap : Nat) (w : World) (hw : Nums w a len) :
    Calls Try.prog 7 #[.int .i64 qn, .slice a len cap, .int .i64 tn, .int .i64 rn] w fun e w' => e = .returned (.bool true) ∧ Below w.heap.size w w' := by
  have HN : Hid (∀ W, Calls Try.prog 8 #[.int .i64 qn] W fun e w' => e = .returned (.pointer (some ⟨W.heap.size, 0, none⟩)) ∧ IsR w' W.heap.size (qB qn) 0 9223372036854775807 ∧ w'.heap.size = W.heap.size + 1 ∧ Below W.heap.size W w') := fun W => rbnew_any qn W
  have hqb := qB_bd qn
  generalize qB qn = q at *
  have HW : Hid (∀ W, Below w.heap.size w W → Nums W a len) := fun W b => ⟨hw.1, fun hp => by
    obtain ⟨g, off, e, hg, hc⟩ := hw.2 hp
    exact ⟨g, off, e, Nat.lt_of_lt_of_le hg b.size, fun i hi => by
      obtain ⟨z, hz⟩ := hc i hi
      exact ⟨z, (b.cell (p := ⟨g, off + i, none⟩) hg).trans hz⟩⟩⟩
  have HAL : Hid (∀ W, Calls Try.prog 9 #[] W fun e w' => e = .returned (.bool true) ∧ Below W.heap.size W w') := alive16_any
  have hmx : len ≤ 9223372036854775807 := by have h2 := hw.1; unfold maxLen at h2; omega
  obtain ⟨t0, ht0, hbt⟩ := and_mask tn 1023 (by decide)
  obtain ⟨r0, hr0, hbr⟩ := and_mask rn 7 (by decide)
  have hbt' : bits BinOp.and IntKind.i64 tn 1023 = (t0 : Int) := hbt
  have hbr' : bits BinOp.and IntKind.i64 rn 7 = (r0 : Int) := hbr
  clear hbt hbr hw
  go_enter Try.func7, Try.ntmps7
  go_wp2_with fail
  refine (HN.out _).mono ?_
  rintro e w1 ⟨rfl, R1, hs1, B1⟩
  have HS1 := hidE hs1
  clear hs1
  go_wp2_with fail
  refine (HN.out _).mono ?_
  rintro e w2 ⟨rfl, R2, hs2, B2⟩
  have HS2 := hidE hs2
  clear hs2 HN
  go_wp2_with fail
  refine (HAL.out _).mono ?_
  rintro e w3 ⟨rfl, B3⟩
  clear HAL
  have HRA : Hid (IsR w3 w.heap.size q 0 9223372036854775807) := (R1.below B2 R1.lt).below B3 (by rw [HS2.out, HS1.out]; omega)
  have HRB : Hid (IsR w3 w1.heap.size q 0 9223372036854775807) := R2.below B3 (by rw [HS2.out]; omega)
  have HB3 : Hid (Below w.heap.size w w3) := (B1.trans (B2.mono B1.size)).trans (B3.mono (Nat.le_trans B1.size B2.size))
  have HAB : Hid (w.heap.size ≠ w1.heap.size ∧ w.heap.size ≤ w1.heap.size) := ⟨by rw [HS1.out]; omega, B1.size⟩
  have HSB : Hid (w1.heap.size < w3.heap.size) := HRB.out.lt
  generalize w1.heap.size = rb at *
  clear R1 R2 B1 B2 B3 HS1 HS2
  by_cases h12 : 12 < len
  · have d12 : decide (12 < len) = true := decide_eq_true h12
    go_wp2
    go_ret
    exact ⟨rfl, HB3.out⟩
  · have d12 : decide (12 < len) = false := decide_eq_false h12
    by_cases h0 : len = 0
    · subst h0
      go_wp2
      go_ret
      exact ⟨rfl, HB3.out⟩
    · have d0 : ((len : Int) == 0) = false := by simp; omega
      have O0 : Hid (OW w3.heap.size (w3.alloc (.cells #[] 47)) (.slice (some ⟨w3.heap.size, 0, none⟩) 0 0) []) := OW.empty _ _ (Nat.le_refl _)
      go_wp2_with fail
      go_loopw [11, 46] (fun v11 vi wr => ∃ (i : Nat) (l : List Fl) (a11 : Option Addr) (c11 : Nat), i ≤ len ∧ vi = .int .i64 i ∧ v11 = .slice a11 i c11 ∧ Hid (l.length = i) ∧ Hid (OW w3.heap.size wr (.slice a11 i c11) l) ∧ Hid (Fsh 0 l) ∧ Hid (Below w3.heap.size w3 wr)) (fun _ vi _ => len - (intOf vi).toNat)
      case atStart => exact ⟨0, [], _, _, Nat.zero_le _, rfl, rfl, rfl, O0, fun j hj => absurd hj (Nat.not_lt_zero _), (Below.refl _ _).alloc (Nat.le_refl _) _⟩
      case round =>
        clear O0
        obtain ⟨i, l, a11, c11, hi, rfl, rfl, HLL, HO, HFS, HB⟩ := hrel
        by_cases hlt : i < len
        · obtain ⟨g, off, rfl, hg, hc⟩ := (HW.out wr (HB3.out.trans (HB.out.mono HB3.out.size))).2 (by omega)
          obtain ⟨z, hz⟩ := hc i hlt
          obtain ⟨m, hm, hbm⟩ := and_mask z 1023 (by decide)
          have hbm' : bits BinOp.and IntKind.i64 z 1023 = (m : Int) := hbm
          obtain ⟨v7, w7, r7, O7, B7⟩ := ow_append HO.out HB.out.size (3 * (i : Int)) (m : Int) (by rw [HLL.out]; omega)
          have hf7 := HFS.out.snoc m hm
          rw [HLL.out] at hf7
          obtain ⟨a7, c7, rfl, _⟩ := O7.fls
          have HL7 : Hid ((l ++ [(3 * (i : Int), (m : Int))]).length = i + 1) := by rw [Hid, List.length_append, HLL.out]; rfl
          rw [HL7.out] at r7 O7
          have HO7 : Hid (OW w3.heap.size w7 (.slice a7 (i + 1) c7) (l ++ [(3 * (i : Int), (m : Int))])) := O7
          have HB7 : Hid (Below w3.heap.size w3 w7) := HB.out.trans B7
          have HF7 := hidE hf7
          have m1 : (0 : Int) ≤ i := by omega
          have m2 : (i : Int) < len := by omega
          have m3 : IntKind.i64.wrap (3 * (i : Int)) = 3 * (i : Int) := by rw [IntKind.wrap_i64]; omega
          clear hbm O7 B7 hc HB HO hf7 HFS
          go_wp2_with (at_builtin; refine wpList_append_run2 rfl _ _ 29 29 rfl _ _ _ w7 rfl rfl r7 ?_)
          go_roundw
          case rel => exact ⟨i + 1, _, _, _, by omega, by go_num, rfl, HL7, HO7, HF7, HB7⟩
          case measure => simp [intOf]; omega
        · obtain rfl : i = len := by omega
          obtain ⟨gf, cf, ev, hgf, F0, hcf⟩ := owns_FO (show wr.ownsRow w3.heap.size 47 2 (.slice a11 i c11) l.length (rowW l) from HO.out) (by rw [HLL.out]; omega)
          injection ev with e1 e2 e3
          clear e2
          subst e1 e3
          have hcl : i ≤ c11 := by have := F0.len; rw [HLL.out] at this; exact this
          have hmod : (t0 : Int).tmod (i : Int) = ((t0 % i : Nat) : Int) := by
            rw [Int.tmod_eq_emod_of_nonneg (by omega)]; exact (Int.natCast_emod t0 i).symm
          have hmod2 : (t0 : Int) % (i : Int) = ((t0 % i : Nat) : Int) := (Int.natCast_emod t0 i).symm
          have hkl : t0 % i < i := Nat.mod_lt _ (by omega)
          generalize t0 % i = k at *
          have HSO : Hid (SO w w.heap.size rb gf c11 q 0 wr l 0 9223372036854775807) := ⟨F0, HFS.out, HRA.out.below HB.out HRA.out.lt, HRB.out.below HB.out HRB.out.lt, HB3.out.trans (HB.out.mono HB3.out.size), Int.le_refl _, by decide⟩
          have HGF : Hid (w.heap.size ≤ gf) := Nat.le_trans HB3.out.size hgf
          clear HO HB F0 hgf HFS
          have HCF : Hid (c11 ≤ maxLen) := hcf
          have hadd : IntKind.i64.wrap (1 + (r0 : Int)) = ((1 + r0 : Nat) : Int) := by rw [IntKind.wrap_i64]; omega
          generalize hR0 : 1 + r0 = r1 at *
          have hr1 : r1 ≤ 8 := by omega
          clear hR0 hcf
          go_wp2_with fail
          go_loopw [15] (fun v15 wr => ∃ (n : Nat) (l : List Fl) (cr la : Int), n ≤ r1 ∧ v15 = .int .i64 n ∧ Hid (l.length = i) ∧ Hid (SO w w.heap.size rb gf c11 q (268435456 * (n : Int)) wr l cr la)) (fun v15 _ => r1 - (intOf v15).toNat)
          case atStart => exact ⟨0, l, 0, 9223372036854775807, Nat.zero_le _, rfl, HLL, HSO⟩
          case round =>
            clear HSO HLL
            obtain ⟨n, l, cr, la, hn, rfl, HLL, HSO⟩ := hrel
            by_cases hlt2 : n < r1
            · obtain ⟨fo, fsh, ra, rbr, be, c0, c1⟩ := HSO.out
              have hkc : ¬ c11 = k := by omega
              have mk0 : (0 : Int) ≤ k := by omega
              have mk1 : (k : Int) ≤ i := by omega
              have mk2 : (k : Int) ≤ c11 := by omega
              have hli : l.length ≤ 12 := by rw [HLL.out]; omega
              have O1 := ow_lit wr [(1, 0), (-7, -5)] #[.int .i64 1, .int .i64 0, .int .i64 (-7), .int .i64 (-5)] rfl 2 rfl (by decide)
              have BA : Below wr.heap.size wr (wr.alloc (.cells #[.int .i64 1, .int .i64 0, .int .i64 (-7), .int .i64 (-5)] 47)) := (Below.refl _ _).alloc (Nat.le_refl _) _
              have f1 := (fo.below BA fo.lt).drop k (by omega)
              rw [Nat.zero_add] at f1
              have hdl : (l.drop k).length = i - k := by rw [List.length_drop, HLL.out]
              obtain ⟨v4, w4, r4, O4, B4⟩ := ow_app (c' := c11 - k) O1 f1 BA.size (by rw [hdl]; show 2 + _ ≤ _; omega)
              rw [hdl] at r4
              have D4 := BA.trans B4
              have f2 := (fo.below D4 fo.lt).take k
              have htl : (l.take k).length = k := by rw [List.length_take, HLL.out]; omega
              obtain ⟨v5, w5, r5, O5, B5⟩ := ow_app (c' := c11) O4 f2 D4.size (by rw [htl, List.length_append, hdl]; show 2 + _ + _ ≤ _; omega)
              rw [htl] at r5
              have D5 : Below wr.heap.size wr w5 := D4.trans B5
              have fo5 := fo.below D5 fo.lt
              have ra5 := ra.below D5 ra.lt
              have rb5 := rbr.below D5 rbr.lt
              have be5 := be.trans (D5.mono be.size)
              have HR1 := hidE (rbround_any l (some ⟨gf, 0, none⟩) c11 w.heap.size q cr la w5 ra5 (fo5.fls HCF.out) (by omega) (by omega) (by omega) (by omega) (by omega) (fun f hf => (fsh_inr fsh hli f hf).2))
              rw [HLL.out] at HR1
              have O5' : OW wr.heap.size w5 v5 (othL l k) := O5
              obtain ⟨a5, c5, rfl, _⟩ := O5'.fls
              have HOL : Hid ((othL l k).length = i + 2) := by rw [Hid, oth_len, HLL.out]
              rw [HOL.out] at r5 O5'
              clear f1 f2 htl hdl O1 O4 O5 B4 B5 D4 BA
              have HF5 := hidE fo5
              have HA5 := hidE ra5
              have HB5 := hidE rb5
              have HE5 := hidE be5
              have HO5 := hidE O5'
              have HFS := hidE fsh
              have HD5 := hidE D5
              have HLW : Hid (rb < wr.heap.size ∧ w.heap.size < wr.heap.size) := ⟨rbr.lt, ra.lt⟩
              clear fo ra rbr be fo5 ra5 rb5 be5 O5' fsh D5 HSO
              go_wp2_with (at_builtin; first | (refine wpList_append_run2 rfl _ _ 29 29 rfl _ _ _ w4 rfl rfl r4 ?_; clear r4) | (refine wpList_append_run2 rfl _ _ 29 29 rfl _ _ _ w5 rfl rfl r5 ?_; clear r5))
              refine HR1.out.mono ?_
              rintro e w6 ⟨W1, hW1, v17, rfl, G6, R6, X6⟩
              clear HR1
              have HWW := hidE hW1
              have hask := hW1.ask (fun f hf => (fsh_inr HFS.out hli f hf).2)
              have hcr := loopQ_cr _ W1 (cr + q) la [] (Nat.le_refl _) hask (by omega)
              have hgs := loopQ_gs _ W1 (cr + q) la [] (Nat.le_refl _) hask (by omega)
              have hgn : ((([] : List Fl).length : Nat) : Int) = 0 := rfl
              rw [hgn] at hgs
              have HCN : Hid (∀ f ∈ W1, ∃ j, j < i ∧ f.1 = 3 * (j : Int)) := fun f hf => by
                obtain ⟨s1, s2⟩ := wait_spec hW1 (fun f hf => (fsh_inr HFS.out hli f hf).1)
                obtain ⟨j, hj, _, hj2, _⟩ := HFS.out.mem ((head_distinct HFS.out.dist f).1 ((s2 f).1 hf).2)
                exact ⟨j, by rw [← HLL.out]; exact hj, hj2⟩
              generalize hRR : loopQ W1 (cr + q) la [] = R at *
              have HRR := hidE hRR
              obtain ⟨cr', la', gs⟩ := R
              simp only at G6 R6 hcr hgs
              clear hRR hgn hask
              have HO6 : Hid (OW wr.heap.size w6 (.slice a5 (i + 2) c5) (othL l k)) := HO5.out.move fun kk hk1 hk2 => X6.block kk hk1 (by have := HLW.out; omega)
              have rb6 := isr_ex HB5.out X6 (by exact HAB.out.1.symm)
              have HR2 : Hid (Calls Try.prog 14 #[.pointer (some ⟨rb, 0, none⟩), .slice a5 (othL l k).length c5] w6 fun e w' => ∃ W, WaitP la (othL l k) W ∧ RdR w6 rb q (loopQ W (cr + q) la []) e w') := by
                obtain ⟨a5', c5', e5, hfl⟩ := HO6.out.fls
                injection e5 with e51 e52 e53
                subst e51 e53
                exact rbround_any (othL l k) a5 c5 rb q cr la w6 rb6 hfl (by rw [HOL.out]; omega) (by omega) (by omega) (by omega) (by omega) (fun f hf => (oth_inr HFS.out hli k f hf).2)
              rw [HOL.out] at HR2
              have HF6 := hidE (fo_ex HF5.out X6 (not_robin_flow HA5.out HF5.out).symm)
              have HE6 := hidE (HE5.out.trans (X6.below (Nat.le_refl _) HE5.out.size))
              have HG6 := hidE G6
              have HA6 := hidE R6
              have HB6 := hidE rb6
              have HGS := hidE hgs
              have HCR := hidE hcr
              clear G6 R6 X6 rb6 hW1 hgs hcr HF5 HE5 HA5 HB5 HO5 HO6 HD5
              go_wp2_with fail
              refine HR2.out.mono ?_
              rintro e w7 ⟨W2, hW2, v18, rfl, G7, R7, X7⟩
              rw [oth_wait HFS.out hli k HWW.out hW2, HRR.out] at G7 R7
              simp only at G7 R7
              clear HR2 hW2 HRR HWW
              have HG7 := hidE G7
              have HB7 := hidE R7
              have HA7 := hidE (isr_ex HA6.out X7 HAB.out.1)
              have HF7 := hidE (fo_ex HF6.out X7 (not_robin_flow HB6.out HF6.out).symm)
              have HE7 := hidE (HE6.out.trans (X7.below HAB.out.2 HE6.out.size))
              have HH7 := hidE (go_ex HG6.out X7 HB6.out)
              have HC1 := hidE (rbcredit_any _ _ _ _ w7 HA7.out)
              have HC2 := hidE (rbcredit_any _ _ _ _ w7 HB7.out)
              obtain ⟨a17, c17, rfl⟩ := HH7.out.form
              obtain ⟨a18, c18, rfl⟩ := HG7.out.form
              obtain ⟨m, hm⟩ : ∃ m, m = gs.length := ⟨_, rfl⟩
              have HM : Hid (gs.length = m) := hm.symm
              have hm2 : m ≤ 2000000 := by have := HGS.out.2; omega
              rw [← hm]
              clear hm G7 R7 X7 HF6 HE6 HA6 HB6 HG6
              go_wp2_with fail
              refine HC1.out.mono ?_
              rintro e w8 ⟨rfl, rfl⟩
              go_wp2_with fail
              refine HC2.out.mono ?_
              rintro e w9 ⟨rfl, rfl⟩
              clear HC1 HC2
              have HS0 : Hid (SO w w.heap.size rb gf c11 q (268435456 * (n : Int) + 64 * ((0 : Nat) : Int)) w9 l cr' la') := ⟨HF7.out, HFS.out.mono (by omega), HA7.out, HB7.out, HE7.out, HCR.out.1, HCR.out.2⟩
              rw [HM.out] at HG7 HH7
              generalize w5.heap.size = bx at *
              generalize w6.heap.size = by' at *
              go_wp2_with fail
              go_loopw [104] (fun vj wr => ∃ (j : Nat) (l : List Fl), j ≤ m ∧ vj = .int .i64 j ∧ Hid (l.length = i) ∧ Hid (SO w w.heap.size rb gf c11 q (268435456 * (n : Int) + 64 * (j : Int)) wr l cr' la') ∧ Hid (GO bx wr (.slice a17 m c17) gs) ∧ Hid (GO by' wr (.slice a18 m c18) gs)) (fun vj _ => m - (intOf vj).toNat)
              case atStart => exact ⟨0, l, Nat.zero_le _, rfl, HLL, HS0, HH7, HG7⟩
              case round =>
                clear HS0 HLL HH7 HG7 HF7 HFS HE7 HA7 HB7
                obtain ⟨j, l, hj, rfl, HLL, HSO, HX, HY⟩ := hrel
                by_cases hlt3 : j < m
                · obtain ⟨g17, c17', e17, _, hl17, hc17⟩ := HX.out.at (by rw [HM.out]; omega)
                  injection e17 with e171 e172 e173
                  subst e171 e173
                  clear e172
                  obtain ⟨g18, c18', e18, _, hl18, hc18⟩ := HY.out.at (by rw [HM.out]; omega)
                  injection e18 with e181 e182 e183
                  subst e181 e183
                  clear e182
                  have x0 := (hc17 j (by rw [HM.out]; exact hlt3)).1
                  have x1 := (hc17 j (by rw [HM.out]; exact hlt3)).2
                  have y0 := (hc18 j (by rw [HM.out]; exact hlt3)).1
                  have y1 := (hc18 j (by rw [HM.out]; exact hlt3)).2
                  have hgm : gs.getD j (0, 0) ∈ gs := by
                    rw [List.getD_eq_getElem?_getD, List.getElem?_eq_getElem (by rw [HM.out]; exact hlt3)]
                    exact List.getElem_mem _
                  obtain ⟨p1, p2, f, hfW, hf1⟩ := (HGS.out.1 _ hgm).resolve_left (by simp)
                  obtain ⟨j0, hj0, hf2⟩ := HCN.out f hfW
                  have hx0 : (gs.getD j (0, 0)).1 = 3 * (j0 : Int) := hf1.symm.trans hf2
                  clear hgm hfW hf1 hf2 hc17 hc18
                  generalize gs.getD j (0, 0) = gr at *
                  obtain ⟨u0, u1⟩ := gr
                  simp only at x0 x1 y0 y1 p1 p2 hx0
                  have hjl : j0 < l.length := by rw [HLL.out]; exact hj0
                  obtain ⟨fo, fsh, ra, rbr, be, c0', c1'⟩ := HSO.out
                  have f1 := fo.c1 j0 hjl
                  have fz := fo.z (j0 * 2 + 1)
                  rw [Nat.zero_add] at f1
                  have fj := fsh j0 hjl
                  have nra := not_robin_flow ra fo
                  have nrb := not_robin_flow rbr fo
                  have hfl := fo.lt
                  have hs2 := fsh.sub j0 hjl u1 p1 p2
                  have KEY : Hid (∀ nn, SO w w.heap.size rb gf c11 q (268435456 * (n : Int) + 64 * ((j + 1 : Nat) : Int)) (((wr.alloc (.cells #[.int .i64 u0, .int .i64 u1] 40)).drewN nn).setCell ⟨gf, j0 * 2 + 1, none⟩ (.int .i64 ((l.getD j0 (0, 0)).2 - u1))) (l.set j0 (3 * (j0 : Int), (l.getD j0 (0, 0)).2 - u1)) cr' la' ∧ GO bx (((wr.alloc (.cells #[.int .i64 u0, .int .i64 u1] 40)).drewN nn).setCell ⟨gf, j0 * 2 + 1, none⟩ (.int .i64 ((l.getD j0 (0, 0)).2 - u1))) (.slice (some ⟨g17, 0, none⟩) m c17) gs ∧ GO by' (((wr.alloc (.cells #[.int .i64 u0, .int .i64 u1] 40)).drewN nn).setCell ⟨gf, j0 * 2 + 1, none⟩ (.int .i64 ((l.getD j0 (0, 0)).2 - u1))) (.slice (some ⟨g18, 0, none⟩) m c18) gs) := fun nn => by
                    have BA : Below wr.heap.size wr ((wr.alloc (.cells #[.int .i64 u0, .int .i64 u1] 40)).drewN nn) := below_drewN ((Below.refl _ _).alloc (Nat.le_refl _) _) nn
                    have fo' := fo.below BA fo.lt
                    have hs1 := fo'.set1 j0 hjl ((l.getD j0 (0, 0)).2 - u1)
                    rw [fj.1, Nat.zero_add] at hs1
                    exact ⟨⟨hs1, hs2.mono (by omega), isr_set (ra.below BA ra.lt) nra, isr_set (rbr.below BA rbr.lt) nrb, (be.trans (BA.mono be.size)).setCell (p := ⟨gf, j0 * 2 + 1, none⟩) HGF.out _, c0', c1'⟩, go_flow (HX.out.grow BA) fo', go_flow (HY.out.grow BA) fo'⟩
                  have HL2 : Hid ((l.set j0 (3 * (j0 : Int), (l.getD j0 (0, 0)).2 - u1)).length = i) := by rw [Hid, List.length_set]; exact HLL.out
                  have fjb := fj.2
                  generalize hL : l.set j0 (3 * (j0 : Int), (l.getD j0 (0, 0)).2 - u1) = L2 at *
                  generalize (l.getD j0 (0, 0)).2 = z0 at *
                  have hzw : IntKind.i64.wrap (z0 - u1) = z0 - u1 := by rw [IntKind.wrap_i64]; omega
                  have hq1 : (u0 : Int).tdiv 3 = (j0 : Int) := by rw [hx0, Int.mul_tdiv_cancel_left _ (by decide)]
                  have hq2 : u0 / 3 = (j0 : Int) := by omega
                  have hq3 : IntKind.i64.wrap (j0 : Int) = (j0 : Int) := by rw [IntKind.wrap_i64]; omega
                  have EN := grant_neq u0 u1
                  have m1 : (0 : Int) ≤ j := by omega
                  have m2 : (j : Int) < m := by omega
                  have m3 : (0 : Int) ≤ j0 := by omega
                  have m4 : (j0 : Int) < i := by omega
                  have ng : ¬ gf = wr.heap.size := by omega
                  have ng2 : ¬ wr.heap.size = gf := by omega
                  clear hL hs2 fj fo fsh ra rbr be HX HY HSO hx0 c0' c1' p1 p2 HLL fjb hjl nra nrb
                  go_wp2_with fail
                  go_quiet (fail)
                  go_wp2_with fail
                  go_region
                  all_goals
                    go_wp2
                    go_roundw
                    case rel => exact ⟨j + 1, L2, by omega, by go_num, HL2, (KEY.out _).1, (KEY.out _).2.1, (KEY.out _).2.2⟩
                    case measure => simp [intOf]; omega
                · have HS2 : Hid (SO w w.heap.size rb gf c11 q (268435456 * ((n + 1 : Nat) : Int)) wr l cr' la') := ⟨HSO.out.fo, HSO.out.fs.mono (by omega), HSO.out.ra, HSO.out.rb, HSO.out.be, HSO.out.c0, HSO.out.c1⟩
                  go_wp2
                  go_roundw
                  case rel => exact ⟨n + 1, l, cr', la', by omega, by go_num, HLL, HS2⟩
                  case measure => simp [intOf]; omega
            · go_wp2
              go_ret
              exact ⟨rfl, HSO.out.be⟩
end Go.Proofs.Ytejjljhmlgjlhaa
