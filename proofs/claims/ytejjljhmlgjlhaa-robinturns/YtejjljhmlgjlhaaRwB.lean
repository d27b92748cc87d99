/- RobinTurns, walked. -/
import Derived.Test.YtejjljhmlgjlhaaRwA
import Derived.Test.YtejjljhmlgjlhaaRbT
import Derived.Maps.OwnOps
import Derived.Maps.OwnSet
import Derived.Maps.Views
namespace Go.Proofs.Ytejjljhmlgjlhaa
open Go.RowKit
set_option linter.unusedVariables false

theorem laT_step (n T K : Nat) : (if K = 0 then laT n T else cy n T (K - 1)) = laT n (T + K) := by
  by_cases h : K = 0
  · rw [if_pos h, h, Nat.add_zero]
  · rw [if_neg h]
    unfold laT cy
    rw [if_neg (by omega), Nat.add_zero, show T + (K - 1) = T + K - 1 by omega]
/-- The grants of a round. -/
def gK (n T K : Nat) : List Fl := (List.range K).map fun (j : Nat) => ((cy n T j, 64) : Fl)
theorem turn_R {n T K : Nat} {cr : Int} (hn : 0 < n) (hK : K ≤ 100) (h1 : 64 * (K : Int) ≤ cr) (h2 : cr < 64 * (K : Int) + 64) : loopQ (flX n T) cr (laT n T) [] = (cr - 64 * (K : Int), laT n (T + K), gK n T K) := by
  rw [turn_loop n hn K T (flX n T) cr (laT n T) [] (by unfold flX; rw [List.map_map]; rfl) (fun f hf => by
    unfold flX at hf
    obtain ⟨j, _, rfl⟩ := List.mem_map.1 hf
    show _ < (1048576 : Int)
    omega) h1 h2, laT_step]
  rfl
theorem gK_at (n T K j : Nat) (hj : j < K) : (gK n T K).getD j (0, 0) = (cy n T j, 64) := by
  unfold gK
  simp [List.getD_eq_getElem?_getD, hj]
theorem gK_len (n T K : Nat) : (gK n T K).length = K := by unfold gK; simp
/-- What the map holds behind T grants. -/
def CM (n T : Nat) (D : DataW Nat) : Prop := ∀ i : Nat, 1 ≤ i → i ≤ n → D.atKey (.int .i64 (7 * (i : Int))) (.lit (.int .i64 0)) = .lit (.int .i64 ((ct n T i : Nat) : Int))
theorem cntt_eq {c d : Int} {z : DataW Nat} (h : z = .lit (.int .i64 c)) (k : z = .lit (.int .i64 d)) : d = c := by
  rw [h] at k
  injection k with k
  injection k with _ k
  exact k.symm
theorem cy_idx (n T : Nat) : cy n T 0 = 7 * ((T % n + 1 : Nat) : Int) := by unfold cy; rw [Nat.add_zero]; omega
theorem cm_step {n T : Nat} {D : DataW Nat} (h1 : 1 ≤ n) (h2 : n ≤ 8) (h : CM n T D) (hm : Maps.IsMap D) : CM n (T + 1) (D.put (.int .i64 (7 * ((T % n + 1 : Nat) : Int))) (.lit (.int .i64 ((ct n T (T % n + 1) : Nat) + 1 : Int)))) := by
  intro i hi1 hi2
  rw [ct_step h1 h2 hi1 hi2]
  by_cases e : i = T % n + 1
  · rw [if_pos e, e, Maps.atKey_put_same hm (by exact trivial)]
    congr 2
  · rw [if_neg e, Maps.atKey_put_other (fun c => e (by injection c with _ c; omega)), h i hi1 hi2, Nat.add_zero]
/-- The state of RobinTurns' rounds. -/
structure ST (w : World) (rb mk n : Nat) (q : Int) (wr : World) (T : Nat) (cr P : Int) (D : DataW Nat) : Prop where
  ra : IsR wr rb q cr (laT n T)
  om : wr.ownsMap Try.prog 3 (plainElem Try.prog 3) mk T D
  cm : CM n T D
  eq : 64 * (T : Int) + cr = P
  c0 : 0 ≤ cr
  c1 : cr < 64
  be : Below w.heap.size w wr
theorem om_block {w w' : World} {b n : Nat} {D : DataW Nat} (h : w.ownsMap Try.prog 3 (plainElem Try.prog 3) b n D) (e : w'.heap[b]? = w.heap[b]?) : w'.ownsMap Try.prog 3 (plainElem Try.prog 3) b n D := by
  obtain ⟨es, cl, h1, r⟩ := h
  exact ⟨es, cl, e.trans h1, r⟩
theorem flD_snoc (n m : Nat) : flD n (m + 1) = flD n m ++ [(7 * ((n : Int) - (m : Int)), 1048576)] := by unfold flD; rw [List.range_succ, List.map_append]; rfl
theorem flD_len (n m : Nat) : (flD n m).length = m := by unfold flD; simp
set_option maxRecDepth 100000 in
set_option maxHeartbeats 4000000 in
theorem turns_walk (n0 q0 r0 : Int) (w : World) : Calls Try.prog 5 #[.int .i64 n0, .int .i64 q0, .int .i64 r0] w fun e w' => e = .returned (.bool true) ∧ Below w.heap.size w w' := by
  have hmm := @ run_makeMap Try.prog
  have hzI := Try.zeroValue3
  have KI := Maps.int_keyed (P := Try.prog) (k := 3) Try.underlying3
  obtain ⟨k1, hk1, hb1⟩ := and_mask n0 7 (by decide)
  obtain ⟨k2, hk2, hb2⟩ := and_mask q0 2047 (by decide)
  obtain ⟨rr, hk3, hb3⟩ := and_mask r0 15 (by decide)
  have hb1' : bits BinOp.and IntKind.i64 n0 7 = (k1 : Int) := hb1
  have hb2' : bits BinOp.and IntKind.i64 q0 2047 = (k2 : Int) := hb2
  have hb3' : bits BinOp.and IntKind.i64 r0 15 = (rr : Int) := hb3
  have hw1 : IntKind.i64.wrap (1 + (k1 : Int)) = ((1 + k1 : Nat) : Int) := by rw [IntKind.wrap_i64]; omega
  have hw2 : IntKind.i64.wrap (1 + (k2 : Int)) = ((1 + k2 : Nat) : Int) := by rw [IntKind.wrap_i64]; omega
  obtain ⟨n, hn⟩ : ∃ n, n = 1 + k1 := ⟨_, rfl⟩
  obtain ⟨qq, hqq⟩ : ∃ qq, qq = 1 + k2 := ⟨_, rfl⟩
  rw [← hn] at hw1
  rw [← hqq] at hw2
  have hn1 : 1 ≤ n := by omega
  have hn8 : n ≤ 8 := by omega
  have hq1 : 1 ≤ qq := by omega
  have hq2 : qq ≤ 2048 := by omega
  have HN : Hid (∀ W, Calls Try.prog 8 #[.int .i64 (qq : Int)] W fun e w' => e = .returned (.pointer (some ⟨W.heap.size, 0, none⟩)) ∧ IsR w' W.heap.size (qq : Int) 0 9223372036854775807 ∧ w'.heap.size = W.heap.size + 1 ∧ Below W.heap.size W w') := fun W => by
    have k := rbnew_any (qq : Int) W
    rw [show qB (qq : Int) = (qq : Int) by unfold qB; omega] at k
    exact k
  have HAL : Hid (∀ W, Calls Try.prog 9 #[] W fun e w' => e = .returned (.bool true) ∧ Below W.heap.size W w') := alive16_any
  clear hb1 hb2 hb3 hn hqq hk1 hk2
  go_enter Try.func5, Try.ntmps5
  go_wp2_with fail
  refine (HAL.out _).mono ?_
  rintro e w1 ⟨rfl, B1⟩
  clear HAL
  go_wp2_with fail
  refine (HN.out _).mono ?_
  rintro e w2 ⟨rfl, R2, hs2, B2⟩
  clear HN hs2
  have BA : Below w2.heap.size w2 (w2.alloc (.map #[] 0)) := (Below.refl _ _).alloc (Nat.le_refl _) _
  have b2 := B1.trans (B2.mono B1.size)
  have S0 : Hid (ST w w1.heap.size w2.heap.size n (qq : Int) (w2.alloc (.map #[] 0)) 0 0 0 (.map [])) := ⟨R2.below BA R2.lt, World.ownsMap_made (H := Nat) w2 Try.prog 3 (plainElem Try.prog 3), fun i hi1 hi2 => by
    rw [show ct n 0 i = 0 from Nat.div_eq_of_lt (by omega)]
    exact WideAt.atKey_none _ (fun p hp => by cases hp), by omega, Int.le_refl _, by decide, b2.trans (BA.mono b2.size)⟩
  have HRM : Hid (w1.heap.size < w2.heap.size ∧ w.heap.size ≤ w1.heap.size) := ⟨R2.lt, B1.size⟩
  clear R2 B1 B2 b2 BA
  go_wp2_with fail
  generalize w2.alloc (.map #[] 0) = w3 at *
  generalize w1.heap.size = rb at *
  generalize w2.heap.size = mk at *
  go_loopw [9] (fun vk wr => ∃ (k T : Nat) (cr : Int) (D : DataW Nat), k ≤ rr ∧ vk = .int .i64 k ∧ Hid (T ≤ 40 * k) ∧ Hid (ST w rb mk n (qq : Int) wr T cr ((k : Int) * (qq : Int)) D)) (fun vk _ => rr - (intOf vk).toNat)
  case atStart => exact ⟨0, 0, 0, _, Nat.zero_le _, rfl, Nat.le_refl _, by simpa using S0⟩
  case round =>
    clear S0
    obtain ⟨k, T, cr, D, hk, rfl, HT, HS⟩ := hrel
    by_cases hlt : k < rr
    · have O0 : Hid (OW wr.heap.size (wr.alloc (.cells #[] 47)) (.slice (some ⟨wr.heap.size, 0, none⟩) 0 0) (flD n 0)) := OW.empty _ _ (Nat.le_refl _)
      go_wp2_with fail
      go_loopw [10, 11] (fun v10 vi wr2 => ∃ (i : Nat) (a10 : Option Addr) (c10 : Nat), i ≤ n ∧ vi = .int .i64 i ∧ v10 = .slice a10 (n - i) c10 ∧ Hid (OW wr.heap.size wr2 (.slice a10 (n - i) c10) (flD n (n - i))) ∧ Hid (Below wr.heap.size wr wr2)) (fun _ vi _ => (intOf vi).toNat)
      case atStart => exact ⟨n, _, _, Nat.le_refl _, rfl, by rw [Nat.sub_self], by rw [Nat.sub_self]; exact O0, (Below.refl _ _).alloc (Nat.le_refl _) _⟩
      case round =>
        clear O0
        obtain ⟨i, a10, c10, hi, rfl, rfl, HO, HB⟩ := hrel
        cases i with
        | zero =>
          obtain ⟨ra, om, cm, heq, c0, c1, be⟩ := HS.out
          rw [Nat.sub_zero] at HO ⊢
          have ra2 := ra.below HB.out ra.lt
          have om2 := om_block om (HB.out.block mk om.lt)
          have be2 := be.trans (HB.out.mono be.size)
          obtain ⟨a', c', e', hfl⟩ := HO.out.fls
          rw [flD_len] at e'
          injection e' with e1 e2 e3
          subst e1 e3
          clear e2
          have HRd := hidE (rbround_any (flD n n) a10 c10 rb (qq : Int) cr (laT n T) wr ra2 hfl (by rw [flD_len]; omega) (by omega) (by omega) (by omega) (by omega) (fun f hf => by
            unfold flD at hf
            obtain ⟨t, _, rfl⟩ := List.mem_map.1 hf
            show (1048576 : Int) ≤ _
            decide))
          rw [flD_len] at HRd
          obtain ⟨K, hK1, hK2⟩ : ∃ K : Nat, 64 * (K : Int) ≤ cr + qq ∧ cr + qq < 64 * (K : Int) + 64 := ⟨((cr + qq) / 64).toNat, by omega, by omega⟩
          have hK : K ≤ 40 := by omega
          have HTR := hidE (turn_R (T := T) (show 0 < n by omega) (by omega) hK1 hK2)
          have HOM := hidE om2
          have HCM := hidE cm
          have HBE := hidE be2
          have HRM2 : Hid (rb < wr.heap.size ∧ mk < wr.heap.size) := ⟨ra2.lt, om2.lt⟩
          have HMAP : Hid (∃ es cl, wr.heap[mk]? = some (.map es cl)) := by obtain ⟨es, cl, h1, _⟩ := om2; exact ⟨es, cl, h1⟩
          have HEQ : Hid (64 * ((T + K : Nat) : Int) + (cr + qq - 64 * (K : Int)) = ((k + 1 : Nat) : Int) * (qq : Int)) := by
            have e : ((k + 1 : Nat) : Int) * (qq : Int) = (k : Int) * (qq : Int) + (qq : Int) := by show ((k : Int) + 1) * (qq : Int) = _; rw [Int.add_mul, Int.one_mul]
            rw [Hid, e]
            omega
          have HCC : Hid (0 ≤ cr + qq - 64 * (K : Int) ∧ cr + qq - 64 * (K : Int) < 64) := ⟨by omega, by omega⟩
          clear ra om cm heq be ra2 om2 be2 hfl HO HB HS c0 c1
          go_wp2_with fail
          refine HRd.out.mono ?_
          rintro e w5 ⟨W, hW, v50, rfl, G5, R5, X5⟩
          rw [turn_wait hn1 hn8 hW, HTR.out] at G5 R5
          simp only at G5 R5
          clear HRd hW HTR
          have HG5 := hidE G5
          have HR5 := hidE R5
          have HO5 := hidE (om_block HOM.out (X5.block mk HRM2.out.2 (by have := HRM.out.1; omega)))
          have HB5 := hidE (HBE.out.trans (X5.below HRM.out.2 HBE.out.size))
          obtain ⟨a50, c50, rfl⟩ := G5.form
          rw [gK_len] at HG5 ⊢
          have hT0 : T ≤ 640 := by have := HT.out; omega
          generalize wr.heap.size = bx at *
          generalize hcr : cr + (qq : Int) - 64 * (K : Int) = cr' at *
          clear G5 R5 X5 HOM HBE HMAP HRM2 hK1 hK2 hcr
          go_wp2_with fail
          go_loopw [52] (fun vj wr => ∃ (j : Nat) (D : DataW Nat), j ≤ K ∧ vj = .int .i64 j ∧ Hid (wr.ownsMap Try.prog 3 (plainElem Try.prog 3) mk (T + j) D) ∧ Hid (CM n (T + j) D) ∧ Hid (GO bx wr (.slice a50 K c50) (gK n T K)) ∧ Hid (IsR wr rb (qq : Int) cr' (laT n (T + K))) ∧ Hid (Below w.heap.size w wr)) (fun vj _ => K - (intOf vj).toNat)
          case atStart => exact ⟨0, D, Nat.zero_le _, rfl, HO5, HCM, HG5, HR5, HB5⟩
          case round =>
            clear HO5 HCM HG5 HR5 HB5
            obtain ⟨j, D, hj, rfl, HO, HC, HG, HR, HB⟩ := hrel
            by_cases hjK : j < K
            · obtain ⟨g, c50', e5, _, hlg, hcg⟩ := HG.out.at (by rw [gK_len]; omega)
              rw [gK_len] at e5 hcg
              injection e5 with e51 e52 e53
              subst e51 e53
              clear e52
              have d0 := (hcg j hjK).1
              have d1 := (hcg j hjK).2
              rw [gK_at n T K j hjK] at d0 d1
              simp only at d0 d1
              have hcy : cy n T j = 7 * (((T + j) % n + 1 : Nat) : Int) := by unfold cy; omega
              have hI := Nat.mod_lt (T + j) (show 0 < n by omega)
              have hat0 := HC.out ((T + j) % n + 1) (by omega) (by omega)
              have hcb := (ct_bd (T := T + j) hn1 hn8 (show 1 ≤ (T + j) % n + 1 by omega) (by omega)).2
              have hdv := Nat.div_le_self (T + j) n
              have HC2 := hidE (cm_step hn1 hn8 HC.out HO.out.isMap)
              rw [← hcy] at hat0 HC2
              have hkey := Maps.keyOf_int_mk (P := Try.prog) (k := 3) Try.underlying3 (a := cy n T j) (WalkArith.wf_i64 (by rw [hcy]; omega))
              generalize cy n T j = x at *
              generalize ct n (T + j) ((T + j) % n + 1) = cc at *
              have hwc : IntKind.i64.wrap ((cc : Int) + 1) = (cc : Int) + 1 := by rw [IntKind.wrap_i64]; omega
              have hwf : (Lit.int .i64 ((cc : Int) + 1)).wf = true := WalkArith.wf_i64 (by omega)
              have BA : Below wr.heap.size wr (wr.alloc (.cells #[.int .i64 x, .int .i64 64] 40)) := (Below.refl _ _).alloc (Nat.le_refl _) _
              have hown := om_block HO.out (BA.block mk HO.out.lt)
              have HG2 := hidE (HG.out.grow BA)
              have HR2 := hidE (HR.out.below BA HR.out.lt)
              have HB2 := hidE (HB.out.trans (BA.mono HB.out.size))
              have j1 : (0 : Int) ≤ j := by omega
              have j2 : (j : Int) < K := by omega
              have hne : rb ≠ mk := by have := HRM.out.1; omega
              have hmkw : w.heap.size ≤ mk := by have := HRM.out; omega
              obtain ⟨es, cl, hmp, _⟩ := id hown
              clear hcy hI hcb hdv BA HG HR HB HC hcg
              go_wp2_with (first | (at_lookup; refine wpList_lookup_own_int _ rfl _ _ 44 rfl 3 3 .i64 KI Try.underlying44 Try.underlying3 (hzI _) mk (T + j) D rfl hown _ _ rfl hkey ?_; intro c hat hwc2; obtain rfl : c = (cc : Int) := cntt_eq hat0 hat; clear hat hwc2) | (at_mapUpdate; refine wpList_mapUpdate_own _ rfl _ _ _ 44 rfl 3 3 KI Try.underlying44 _ mk (T + j) D rfl hown (by unfold maxLen; omega) _ _ _ rfl rfl hkey (.lit (.int .i64 ((cc : Int) + 1))) [] (plainElem_int Try.underlying3 hwf) ?_; intro w6 hown1 hgrow1))
              have HO6 := hidE hown1
              have HB6 : Hid (Below w.heap.size w w6) := HB2.out.grown hgrow1 HB2.out.size (fun k e => by cases e; exact hmkw)
              have HG6 : Hid (GO bx w6 (.slice (some ⟨g, 0, none⟩) K c50) (gK n T K)) := HG2.out.move fun k cur hk => hgrow1.block k (Array.getElem?_eq_some_iff.1 hk).1 (fun e => by
                cases e
                rw [hmp] at hk
                cases hk)
              have HR6 : Hid (IsR w6 rb (qq : Int) cr' (laT n (T + K))) := by
                have := HR2.out
                unfold IsR at this ⊢
                rw [Hid, hgrow1.block rb HR2.out.lt (fun e => hne (by cases e; rfl))]
                exact this
              go_roundw
              case rel => exact ⟨j + 1, _, by omega, by go_num, HO6, HC2, HG6, HR6, HB6⟩
              case measure => simp [intOf]; omega
            · obtain rfl : j = K := by omega
              have HSN : Hid (ST w rb mk n (qq : Int) wr (T + j) cr' (((k + 1 : Nat) : Int) * (qq : Int)) D) := ⟨HR.out, HO.out, HC.out, HEQ.out, HCC.out.1, HCC.out.2, HB.out⟩
              have HTN : Hid (T + j ≤ 40 * (k + 1)) := by have := HT.out; show _ ≤ _; omega
              go_wp2
              go_roundw
              case rel => exact ⟨k + 1, T + j, cr', D, by omega, by go_num, HTN, HSN⟩
              case measure => simp [intOf]; omega
        | succ i =>
          obtain ⟨J, hJ⟩ : ∃ J, J = i + 1 := ⟨_, rfl⟩
          rw [← hJ] at HO hi ⊢
          obtain ⟨v7, w7, r7, O7, B7⟩ := ow_append HO.out HB.out.size (7 * (J : Int)) 1048576 (by rw [flD_len]; omega)
          have e7 : flD n (n - J) ++ [(7 * (J : Int), 1048576)] = flD n (n - i) := by
            rw [show n - i = n - J + 1 by omega, flD_snoc, show (n : Int) - ((n - J : Nat) : Int) = (J : Int) by omega]
          rw [e7] at O7
          obtain ⟨a7, c7, rfl, _⟩ := O7.fls
          rw [flD_len] at O7 r7
          have HO7 := hidE O7
          have HB7 := hidE (HB.out.trans B7)
          have m1 : decide (1 ≤ J) = true := decide_eq_true (by omega)
          have m1' : decide ((1 : Int) ≤ (J : Int)) = true := decide_eq_true (by omega)
          have m2 : (1 : Int) ≤ (J : Int) := by omega
          have m3 : IntKind.i64.wrap (7 * (J : Int)) = 7 * (J : Int) := by rw [IntKind.wrap_i64]; omega
          have m4 : IntKind.i64.wrap ((J : Int) - 1) = (i : Int) := by rw [IntKind.wrap_i64]; omega
          have HJ := hidE hJ
          generalize hnJ : n - J = nj at *
          clear e7 O7 B7 HO HB hJ hnJ
          go_wp2_with (at_builtin; refine wpList_append_run2 rfl _ _ 29 29 rfl _ _ _ w7 rfl rfl r7 ?_)
          go_roundw
          case rel => exact ⟨i, a7, c7, by have := HJ.out; omega, by first | rfl | go_num, rfl, HO7, HB7⟩
          case measure => have := HJ.out; simp [intOf]; omega
    · obtain rfl : k = rr := by omega
      obtain ⟨ra, om, cm, heq, c0, c1, be⟩ := HS.out
      have HCM := hidE cm
      have HBE := hidE be
      have hT0 : T ≤ 600 := by have := HT.out; omega
      obtain ⟨P, hP⟩ : ∃ P, P = (k : Int) * (qq : Int) := ⟨_, rfl⟩
      have hPb : 0 ≤ P ∧ P ≤ 40000 := by
        rw [← hP] at heq
        omega
      have hPw : IntKind.i64.wrap ((k : Int) * (qq : Int)) = P := by rw [← hP, IntKind.wrap_i64]; omega
      have hPd : P.tdiv 64 = (T : Int) := by
        rw [Int.tdiv_eq_ediv_of_nonneg hPb.1, ]
        rw [← hP] at heq
        omega
      have hPd2 : P / 64 = (T : Int) := by
        rw [← hP] at heq
        omega
      have hPd3 : IntKind.i64.wrap (T : Int) = (T : Int) := by rw [IntKind.wrap_i64]; omega
      have HSA := hidE (sm_all (T := T) hn1 hn8)
      clear hP heq ra cm be HS hlt c0 c1
      go_wp2_with fail
      go_loopw [14, 15, 16, 17] (fun v14 v15 v16 vi wr2 => ∃ (i : Nat) (lo hi : Int), i ≤ n ∧ vi = .int .i64 ((i : Int) + 1) ∧ v14 = .int .i64 lo ∧ v15 = .int .i64 hi ∧ v16 = .int .i64 ((sm n T i : Nat) : Int) ∧ ((i = 0 ∧ lo = 1073741824 ∧ hi = 0) ∨ (((T / n : Nat) : Int) ≤ lo ∧ lo ≤ ((T / n : Nat) : Int) + 1 ∧ 0 ≤ hi ∧ hi ≤ ((T / n : Nat) : Int) + 1)) ∧ Hid (wr2 = wr)) (fun _ _ _ vi _ => n + 1 - (intOf vi).toNat)
      case atStart => exact ⟨0, _, _, Nat.zero_le _, rfl, rfl, rfl, rfl, .inl ⟨rfl, rfl, rfl⟩, rfl⟩
      case round =>
        obtain ⟨i, lo, hi, hin, rfl, rfl, rfl, rfl, hlh, HWW⟩ := hrel
        obtain rfl := HWW.out
        have hsb := sm_le (T := T) hn1 hn8 i hin
        have hdv := Nat.div_le_self T n
        have hsb2 : sm n T i ≤ 8 * 700 := Nat.le_trans hsb (Nat.mul_le_mul (by omega) (by omega))
        by_cases hlt2 : i < n
        · have hat0 := HCM.out (i + 1) (by omega) (by omega)
          have hcb := ct_bd (T := T) hn1 hn8 (show 1 ≤ i + 1 by omega) (by omega)
          have hss : sm n T (i + 1) = sm n T i + ct n T (i + 1) := rfl
          obtain ⟨J, hJ⟩ : ∃ J : Nat, J = i + 1 := ⟨_, rfl⟩
          rw [← hJ] at hat0 hcb hss
          have hji : (i : Int) + 1 = (J : Int) := by omega
          have hkey := Maps.keyOf_int_mk (P := Try.prog) (k := 3) Try.underlying3 (a := 7 * (J : Int)) (WalkArith.wf_i64 (by omega))
          have m3 : IntKind.i64.wrap (7 * (J : Int)) = 7 * (J : Int) := by rw [IntKind.wrap_i64]; omega
          have m5 : (J : Int) ≤ (n : Int) := by omega
          have m6 : IntKind.i64.wrap ((J : Int) + 1) = (J : Int) + 1 := by rw [IntKind.wrap_i64]; omega
          have HSS := hidE hss
          rw [hji]
          generalize ct n T J = cc at *
          generalize T / n = td at *
          generalize hs0 : sm n T i = s0 at *
          have m7 : IntKind.i64.wrap ((s0 : Int) + (cc : Int)) = (s0 : Int) + (cc : Int) := by rw [IntKind.wrap_i64]; omega
          obtain ⟨nl, hnl⟩ : ∃ nl, min lo (cc : Int) = nl := ⟨_, rfl⟩
          obtain ⟨nh, hnh⟩ : ∃ nh, max hi (cc : Int) = nh := ⟨_, rfl⟩
          have XL := min_run lo (cc : Int) nl hnl
          have XH := max_run hi (cc : Int) nh hnh
          have HNB : Hid ((td : Int) ≤ nl ∧ nl ≤ (td : Int) + 1 ∧ 0 ≤ nh ∧ nh ≤ (td : Int) + 1) := by
            show _ ∧ _ ∧ _ ∧ _
            omega
          have HJI : Hid (J = i + 1) := hJ
          clear hlh hnl hnh hJ hji hss hs0 hsb hcb
          go_wp2_with (first | (at_lookup; refine wpList_lookup_own_int _ rfl _ _ 44 rfl 3 3 .i64 KI Try.underlying44 Try.underlying3 (hzI _) mk T D rfl om _ _ rfl hkey ?_; intro c hat hwc2; obtain rfl : c = (cc : Int) := cntt_eq hat0 hat; clear hat hwc2))
          go_roundw
          case rel => exact ⟨J, nl, nh, by omega, by first | rfl | go_num, rfl, rfl, by rw [HJI.out]; first | (rw [← HJI.out, HSS.out]; rfl) | (rw [← HJI.out, HSS.out]; simp), .inr HNB.out, (by first | exact rfl | exact trivial)⟩
          case measure => have := HJI.out; simp [intOf]; omega
        · obtain rfl : i = n := by omega
          have hlh2 : hi - lo ≤ 1 := by omega
          rw [HSA.out]
          have m1 : ¬ ((i : Int) + 1 ≤ (i : Int)) := by omega
          have m2 : IntKind.i64.wrap (hi - lo) = hi - lo := by rw [IntKind.wrap_i64]; omega
          have m3 : decide (hi - lo ≤ 1) = true := decide_eq_true hlh2
          clear hlh hsb hsb2 hdv
          go_wp2
          go_ret
          exact ⟨by simp, HBE.out⟩
end Go.Proofs.Ytejjljhmlgjlhaa
