/- ClockPlays: the walk (written by cb.py). -/
import Derived.Test.YtofnnphpogpcdaaCa
import Derived.Deep.RegionWith
namespace Go.Proofs.Ytofnnphpogpcdaa
open Go.ChangeShapes Go.WideShapes Go.ChangeAt Go.RowKit
set_option linter.unusedVariables false

theorem ids_off {id : Int} {L : List Pr} (h : ∀ p ∈ L, InR p.1) : ∀ p ∈ offL id L, InR p.1 := fun p hp => h p (mem_off.1 hp).1
theorem ids_ins {id a : Int} {L : List Pr} (hid : InR id) (h : ∀ p ∈ L, InR p.1) : ∀ p ∈ insL (id, a) (offL id L), InR p.1 := fun p hp => by
  rcases List.mem_cons.1 ((insL_perm _ _).mem_iff.1 hp) with e | e
  · rw [e]; exact hid
  · exact ids_off h p e
theorem ids_pass {T : Int} {L : List Pr} (h : ∀ p ∈ L, InR p.1) : ∀ p ∈ passR T L, InR p.1 := fun p hp => h p (List.mem_filter.1 hp).1
set_option maxRecDepth 100000 in
set_option maxHeartbeats 4000000 in
theorem plays15_walk (ad : Option Addr) (len cap : Nat) (w : World) (hO : OpsC w ad len) : Calls Try.prog 3 #[.slice ad len cap] w fun e w' => e = .returned (.bool true) ∧ Below w.heap.size w w' := by
  obtain ⟨hl, hO⟩ := hO
  have HN := hidE (CB.new w w (Below.refl _ _) (fun _ => False) (fun k hk => hk.elim))
  have HA := hidE (fun W => alive15_any W)
  have HO := hidE hO
  unfold maxLen at hl
  clear hO
  go_enter Try.func3, Try.ntmps3
  go_wp2_with fail
  refine HN.out.mono ?_
  rintro e w1 ⟨cb, mk, rfl, C, B⟩
  have HC := hidE C
  clear HN C B
  go_wp2_with fail
  refine (HA.out _).mono ?_
  rintro e w2 ⟨rfl, B2⟩
  have HC2 := hidE (HC.out.bel B2)
  clear HA HC B2
  rcases Nat.lt_or_ge 300 len with hlen | hlen
  · have h3 : decide (300 < len) = true := decide_eq_true hlen
    have h4 : decide ((300 : Int) < (len : Int)) = true := decide_eq_true (by omega)
    have HZ := hidE HC2.out.be
    clear HC2
    go_wp2
    go_ret
    exact ⟨rfl, HZ.out⟩
  · have h3 : decide (300 < len) = false := decide_eq_false (by omega)
    have h4 : decide ((300 : Int) < (len : Int)) = false := decide_eq_false (by omega)
    have HLN := hidE hlen
    have HS0 := hidE (HS.start HC2.out)
    clear HC2
    obtain ⟨mb, hmb⟩ : ∃ mb, mb = w2.heap.size := ⟨_, rfl⟩
    rw [← hmb] at HS0
    go_wp2_with fail
    rw [← hmb]
    clear h3 h4 hmb
    go_loopw [27] (fun vi wr => ∃ (i : Nat) (now : Int) (L : List Pr) (v : Value), i ≤ len ∧ vi = .int .i64 i ∧ Hid (HS w [] cb mk mb i now L now v L wr) ∧ Hid (∀ p ∈ L, InR p.1)) (fun vi _ => len - (intOf vi).toNat)
    case atStart => exact ⟨0, 0, [], _, Nat.zero_le _, rfl, HS0, fun p hp => by cases hp⟩
    case round =>
      clear HS0
      obtain ⟨i, now, L, v, hi, rfl, HS, HR⟩ := hrel
      by_cases hlt : i < len
      · obtain ⟨b2, o2, rfl, hb2, hc2⟩ := HO.out (by omega)
        obtain ⟨k, n, t, in1, in2, g0, g1, g2⟩ := hc2 i hlt
        have bel := HS.out.be
        have d0 := (bel.cell (p := ⟨b2, o2 + i * 3, none⟩) hb2).trans g0
        have d1 := (bel.cell (p := ⟨b2, o2 + i * 3 + 1, none⟩) hb2).trans g1
        have d2 := (bel.cell (p := ⟨b2, o2 + i * 3 + 2, none⟩) hb2).trans g2
        have m1 : (0 : Int) ≤ i := by omega
        have m2 : (i : Int) < len := by omega
        have HI : Hid (i ≤ 300) := (by have := HLN.out; omega : i ≤ 300)
        have HIN := hidE in1
        have HIT := hidE in2
        obtain ⟨a, c, hv, r⟩ := HS.out.r
        subst hv
        have HRD := hidE r
        have HS1 := hidE (HS.out.new (.cells #[.int .i64 k, .int .i64 n, .int .i64 t] 30))
        clear g0 g1 g2 bel hc2 hb2 in1 in2 r
        by_cases e1 : k = 1
        · subst e1
          obtain ⟨T, hT⟩ : ∃ T, now + min (max n 0) (1099511627776 - now) = T := ⟨_, rfl⟩
          have bd := HS.out.bd
          have HP := hidE (pass15_any now n T bd.1 bd.2.1 hT L a c _ (HRD.out.keep ((Below.refl _ _).alloc (Nat.le_refl _) (.cells #[.int .i64 1, .int .i64 n, .int .i64 t] 30))) (by have := HI.out; omega))
          have q0 := HS1.out.d.c0
          have q1 := HS1.out.d.c1
          have HTT := hidE hT
          have HR2 : Hid (∀ p ∈ passR T L, InR p.1) := ids_pass HR.out
          clear hT bd
          go_wp2_with fail
          refine HP.out.mono ?_
          rintro e w5 ⟨vr, vo, rfl, O1, O2, B5⟩
          obtain ⟨G1, h11, h12, h13⟩ := O1.hold
          obtain ⟨G2, h21, h22, h23⟩ := O2.hold
          obtain ⟨ar, cr, hvr, _, _⟩ := O1.rd ED
          obtain ⟨ao, co, hvo, _, _⟩ := O2.rd EI
          subst hvr hvo
          obtain ⟨w6, hw6⟩ : ∃ w6, w6 = w5.alloc (.cells #[.int .i64 T, .slice ar (passR T L).length cr] 28) := ⟨_, rfl⟩
          obtain ⟨nb, hnb⟩ : ∃ nb, nb = w5.heap.size := ⟨_, rfl⟩
          have B6 : Below w5.heap.size w5 w6 := by rw [hw6]; exact (Below.refl _ _).alloc (Nat.le_refl _) _
          have nb6 : w6.heap[nb]? = some (.cells #[.int .i64 T, .slice ar (passR T L).length cr] 28) := by rw [hw6, hnb]; exact tblk_new _ _
          have H6 := HS1.out.grow (G := G1 ++ (G2 ++ [(nb, .cells #[.int .i64 T, .slice ar (passR T L).length cr] 28)])) (B5.trans (B6.mono B5.size)) (fun p hp => by
            rcases List.mem_append.1 hp with q | q
            · exact ⟨(h11 p q).1, (B6.block p.1 (Array.getElem?_eq_some_iff.1 (h11 p q).2).1).trans (h11 p q).2⟩
            · rcases List.mem_append.1 q with q | q
              · exact ⟨(h21 p q).1, (B6.block p.1 (Array.getElem?_eq_some_iff.1 (h21 p q).2).1).trans (h21 p q).2⟩
              · rw [List.mem_singleton.1 q]
                exact ⟨by rw [hnb]; exact B5.size, nb6⟩)
          have O6 := h13 w6 (fun p hp => (H6.f p (by simp [hp])).1)
          have H7 := hidE (H6.store (T2 := T) O6 (fun g hg => by obtain ⟨o, ho⟩ := h12 g hg; exact ⟨o, by simp [ho]⟩))
          have n0 : w6.cell? ⟨nb, 0, none⟩ = some (.int .i64 T) := tblk_cell nb6 rfl
          have n1 : w6.cell? ⟨nb, 1, none⟩ = some (.slice ar (passR T L).length cr) := tblk_cell nb6 rfl
          have u0 := H6.d.c0
          have u1 := H6.d.c1
          have y0 := H6.d.z 0
          have y1 := H6.d.z 1
          obtain ⟨ob, hob⟩ : ∃ ob, ob = wr.heap.size := ⟨_, rfl⟩
          obtain ⟨w7, hw7⟩ : ∃ w7, w7 = (w6.setCell ⟨mb, 0, none⟩ (.int .i64 T)).setCell ⟨mb, 1, none⟩ (.slice ar (passR T L).length cr) := ⟨_, rfl⟩
          rw [← hw7, ← hob] at H7
          have s1 : w7.cell? ⟨ob, 1, none⟩ = some (.int .i64 n) := tblk_cell (H7.out.f (ob, .cells #[.int .i64 1, .int .i64 n, .int .i64 t] 30) (by simp)).1 rfl
          have HH : Hid (∀ V : World, (∀ p ∈ G2, V.heap[p.1]? = some p.2) → OwR 3 1 encI wr.heap.size V (.slice ao (passI T L).length co) (passI T L)) := fun V hV => by
            have o := h23 V hV
            refine o.mono ?_
            simp
          have HG : Hid (∀ p ∈ G2, p ∈ G1 ++ (G2 ++ [(nb, Obj.cells #[.int .i64 T, .slice ar (passR T L).length cr] 28)]) ++ [(ob, Obj.cells #[.int .i64 1, .int .i64 n, .int .i64 t] 30)]) := fun p hp => by simp [hp]
          have HPC := hidE (H7.out.op (P := fun e W' => ∃ a c, e = .returned (.slice a (passI T L).length c) ∧ RdR 1 encI W' a c (passI T L)) (n' := i) (now' := T) (L2 := passR T L) (fun X C => (C.pass (by have := HI.out; omega) HR.out n T HTT.out _ rfl _ rfl).mono fun e W' ⟨a, c, h1, h2, h3, h4⟩ => ⟨⟨a, c, h1, h2⟩, h3, h4⟩))
          clear HP O1 O2 B5 B6 h11 h12 h13 h21 h22 h23 nb6 H6 O6 H7
          rw [hw6] at hw7 u0 u1 y0 y1
          rw [hw7, hob] at s1
          clear n0 n1 hw6 hnb q0 q1
          go_wp2_with fail
          rw [← hw7]
          clear hw7 hob u0 u1 y0 y1 s1
          refine HPC.out.mono ?_
          rintro e w8 ⟨⟨a8, c8, rfl, R8⟩, H8⟩
          obtain ⟨ao', co', eo, RO, _⟩ := (HH.out w8 (fun p hp => (H8.f p (HG.out p hp)).1)).rd EI
          injection eo with eo1 eo2 eo3
          subst eo1 eo3
          clear eo2
          have HSI := hidE (sameints_any (passI T L) (passI T L) _ _ _ _ w8 R8 RO true (by simp))
          have H9 := hidE H8
          clear HPC R8 RO H8 HH HG
          go_wp2_with fail
          refine HSI.out.mono ?_
          rintro e w9 ⟨rfl, kq, rfl⟩
          have HT := hidE ((H9.out.drewN kq).mono (Nat.le_succ i))
          clear HSI H9
          generalize w8.drewN kq = w9 at *
          have HT2 := hidE (HT.out.less (G := []) (fun p hp => by cases hp))
          obtain ⟨ax, cx, hvx, rx⟩ := HT.out.r
          injection hvx with hvx1 hvx2 hvx3
          subst hvx1 hvx3
          clear hvx2
          have c0 := HT.out.d.c0
          have c1 := HT.out.d.c1
          have HTM := hidE HT.out.time
          clear HS HS1 HRD d0 d1 d2 HTT HR
          generalize hLL : passR T L = LL at *
          cases LL with
          | nil =>
            have H := hidE (HT2.out.next 0 false rfl)
            have z0 : decide ((0 : Int) < 0) = false := by decide
            clear HT rx hLL
            go_wp2_with fail
            refine H.out.mono ?_
            rintro e wy ⟨rfl, rfl⟩
            clear H
            go_wp2_with fail
            go_quiet (first | (go_at_call 17; exact Calls.quiet_of_same (HTM.out _)))
            have FN := hidE (HT2.out.drewN nq)
            clear HTM HT2 c0 c1
            go_wp2
            go_roundw
            case rel => exact ⟨i + 1, T, [], _, by omega, by go_num, FN, HR2⟩
            case measure => simp [intOf]; omega
          | cons p tl =>
            have H := hidE (HT2.out.next p.2 true rfl)
            obtain ⟨gx, ox, rfl, _, _⟩ := rx.at (j := 0) (x := p) rfl
            have x1 := (rx.d (j := 0) (p := p) rfl).2
            rw [Nat.zero_mul, Nat.add_zero] at x1
            obtain ⟨lx, hlx⟩ : ∃ lx : Nat, lx = (p :: tl).length := ⟨_, rfl⟩
            have z1 : (0 : Int) < lx := by rw [hlx]; show (0 : Int) < ((tl.length + 1 : Nat) : Int); omega
            have z2 : decide (0 < lx) = true := decide_eq_true (by omega)
            rw [← hlx] at c1
            clear HT rx hLL hlx
            go_wp2_with fail
            refine H.out.mono ?_
            rintro e wy ⟨rfl, rfl⟩
            clear H
            generalize p.2 = p2 at *
            go_wp2_with fail
            go_quiet (first | (go_at_call 17; exact Calls.quiet_of_same (HTM.out _)))
            have FN := hidE (HT2.out.drewN nq)
            clear HTM HT2 c0 c1 x1 z1 z2
            go_wp2
            go_roundw
            case rel => exact ⟨i + 1, T, p :: tl, _, by omega, by go_num, FN, HR2⟩
            case measure => simp [intOf]; omega

        by_cases e2 : k = 2
        · subst e2
          obtain ⟨u, hu⟩ : ∃ u, min t 1099511627776 = u := ⟨_, rfl⟩
          have HU := hidE hu
          have bd := HS.out.bd
          have HLL0 : Hid (L.length ≤ 900000) := (by have := HI.out; omega : L.length ≤ 900000)
          have HP := hidE (HS1.out.op (P := fun e W' => e = .returned (.tuple #[])) (n' := i + 1) (now' := now) (L2 := insL (n, u) (offL n L)) (fun X C => (C.set (by have := HI.out; omega) n t u hu HIN.out _ rfl).mono fun e W' h => ⟨h.1, h.2.1, h.2.2⟩))
          have HR2 : Hid (∀ p ∈ insL (n, u) (offL n L), InR p.1) := ids_ins HIN.out HR.out
          obtain ⟨ob, hob⟩ : ∃ ob, ob = wr.heap.size := ⟨_, rfl⟩
          rw [← hob] at HP
          have HOB := hidE hob
          clear hu bd hob
          go_wp2_with fail
          refine HP.out.mono ?_
          rintro e w5 ⟨rfl, H5⟩
          have s1 : w5.cell? ⟨ob, 1, none⟩ = some (.int .i64 n) := tblk_cell (H5.f (ob, .cells #[.int .i64 2, .int .i64 n, .int .i64 t] 30) (by simp)).1 rfl
          have s2 : w5.cell? ⟨ob, 2, none⟩ = some (.int .i64 t) := tblk_cell (H5.f (ob, .cells #[.int .i64 2, .int .i64 n, .int .i64 t] 30) (by simp)).1 rfl
          have u0 := H5.d.c0
          have u1 := H5.d.c1
          obtain ⟨a5, c5, e5, R5⟩ := H5.r
          injection e5 with e51 e52 e53
          subst e51 e53
          clear e52
          have HP2 := hidE (set15_any now n t u HU.out L a c w5 R5 HLL0.out)
          have H5h := hidE H5
          rw [HOB.out] at s1 s2
          clear HP H5 R5
          go_wp2_with fail
          refine HP2.out.mono ?_
          rintro e w6 ⟨v6, rfl, O6, B6⟩
          obtain ⟨G1, h11, h12, h13⟩ := O6.hold
          obtain ⟨a6, c6, hv6, _, _⟩ := O6.rd ED
          subst hv6
          have H6 := H5h.out.grow (G := G1) B6 (fun p hp => h11 p hp)
          have H7 := H6.store (T2 := now) (h13 w6 (fun p hp => (H6.f p (by simp [hp])).1)) (fun g hg => by obtain ⟨o, ho⟩ := h12 g hg; exact ⟨o, by simp [ho]⟩)
          have v0 := H6.d.c0
          have v1 := H6.d.c1
          have y0 := H6.d.z 0
          have y1 := H6.d.z 1
          obtain ⟨w7, hw7⟩ : ∃ w7, w7 = (w6.setCell ⟨mb, 0, none⟩ (.int .i64 now)).setCell ⟨mb, 1, none⟩ (.slice a6 (insL (n, u) (offL n L)).length c6) := ⟨_, rfl⟩
          rw [← hw7] at H7
          have HT := hidE H7
          clear HP2 H5h O6 B6 h11 h12 h13 H6 H7 s1 s2 u0 u1
          go_wp2_with fail
          rw [← hw7]
          clear hw7 v0 v1 y0 y1
          have HT2 := hidE (HT.out.less (G := []) (fun p hp => by cases hp))
          obtain ⟨ax, cx, hvx, rx⟩ := HT.out.r
          injection hvx with hvx1 hvx2 hvx3
          subst hvx1 hvx3
          clear hvx2
          have c0 := HT.out.d.c0
          have c1 := HT.out.d.c1
          have HTM := hidE HT.out.time
          clear HS HS1 HRD d0 d1 d2 HR HU HLL0 HOB
          generalize hLL : insL (n, u) (offL n L) = LL at *
          cases LL with
          | nil =>
            have H := hidE (HT2.out.next 0 false rfl)
            have z0 : decide ((0 : Int) < 0) = false := by decide
            clear HT rx hLL
            skip
            refine H.out.mono ?_
            rintro e wy ⟨rfl, rfl⟩
            clear H
            go_wp2_with fail
            go_quiet (first | (go_at_call 17; exact Calls.quiet_of_same (HTM.out _)))
            have FN := hidE (HT2.out.drewN nq)
            clear HTM HT2 c0 c1
            go_wp2
            go_roundw
            case rel => exact ⟨i + 1, now, [], _, by omega, by go_num, FN, HR2⟩
            case measure => simp [intOf]; omega
          | cons p tl =>
            have H := hidE (HT2.out.next p.2 true rfl)
            obtain ⟨gx, ox, rfl, _, _⟩ := rx.at (j := 0) (x := p) rfl
            have x1 := (rx.d (j := 0) (p := p) rfl).2
            rw [Nat.zero_mul, Nat.add_zero] at x1
            obtain ⟨lx, hlx⟩ : ∃ lx : Nat, lx = (p :: tl).length := ⟨_, rfl⟩
            have z1 : (0 : Int) < lx := by rw [hlx]; show (0 : Int) < ((tl.length + 1 : Nat) : Int); omega
            have z2 : decide (0 < lx) = true := decide_eq_true (by omega)
            rw [← hlx] at c1
            clear HT rx hLL hlx
            skip
            refine H.out.mono ?_
            rintro e wy ⟨rfl, rfl⟩
            clear H
            generalize p.2 = p2 at *
            go_wp2_with fail
            go_quiet (first | (go_at_call 17; exact Calls.quiet_of_same (HTM.out _)))
            have FN := hidE (HT2.out.drewN nq)
            clear HTM HT2 c0 c1 x1 z1 z2
            go_wp2
            go_roundw
            case rel => exact ⟨i + 1, now, p :: tl, _, by omega, by go_num, FN, HR2⟩
            case measure => simp [intOf]; omega

        by_cases e3 : k = 3
        · subst e3
          have bd := HS.out.bd
          have HP := hidE (drop15_any now L a c n _ (HRD.out.keep ((Below.refl _ _).alloc (Nat.le_refl _) (.cells #[.int .i64 3, .int .i64 n, .int .i64 t] 30))) (by have := HI.out; omega))
          have q0 := HS1.out.d.c0
          have q1 := HS1.out.d.c1
          have HR2 : Hid (∀ p ∈ offL n L, InR p.1) := ids_off HR.out
          obtain ⟨hb, hhb⟩ : ∃ hb, hb = hasL n L := ⟨_, rfl⟩
          have HHB := hidE hhb
          rw [← hhb] at HP
          clear bd hhb
          go_wp2_with fail
          refine HP.out.mono ?_
          rintro e w5 ⟨ar, cr, rfl, O1, B5⟩
          obtain ⟨G1, h11, h12, h13⟩ := O1.hold
          obtain ⟨w6, hw6⟩ : ∃ w6, w6 = w5.alloc (.cells #[.int .i64 now, .slice ar (offL n L).length cr] 28) := ⟨_, rfl⟩
          obtain ⟨nb, hnb⟩ : ∃ nb, nb = w5.heap.size := ⟨_, rfl⟩
          have B6 : Below w5.heap.size w5 w6 := by rw [hw6]; exact (Below.refl _ _).alloc (Nat.le_refl _) _
          have nb6 : w6.heap[nb]? = some (.cells #[.int .i64 now, .slice ar (offL n L).length cr] 28) := by rw [hw6, hnb]; exact tblk_new _ _
          have H6 := HS1.out.grow (G := G1 ++ [(nb, .cells #[.int .i64 now, .slice ar (offL n L).length cr] 28)]) (B5.trans (B6.mono B5.size)) (fun p hp => by
            rcases List.mem_append.1 hp with q | q
            · exact ⟨(h11 p q).1, (B6.block p.1 (Array.getElem?_eq_some_iff.1 (h11 p q).2).1).trans (h11 p q).2⟩
            · rw [List.mem_singleton.1 q]
              exact ⟨by rw [hnb]; exact B5.size, nb6⟩)
          have O6 := h13 w6 (fun p hp => (H6.f p (by simp [hp])).1)
          have H7 := hidE (H6.store (T2 := now) O6 (fun g hg => by obtain ⟨o, ho⟩ := h12 g hg; exact ⟨o, by simp [ho]⟩))
          have n0 : w6.cell? ⟨nb, 0, none⟩ = some (.int .i64 now) := tblk_cell nb6 rfl
          have n1 : w6.cell? ⟨nb, 1, none⟩ = some (.slice ar (offL n L).length cr) := tblk_cell nb6 rfl
          have u0 := H6.d.c0
          have u1 := H6.d.c1
          have y0 := H6.d.z 0
          have y1 := H6.d.z 1
          obtain ⟨ob, hob⟩ : ∃ ob, ob = wr.heap.size := ⟨_, rfl⟩
          obtain ⟨w7, hw7⟩ : ∃ w7, w7 = (w6.setCell ⟨mb, 0, none⟩ (.int .i64 now)).setCell ⟨mb, 1, none⟩ (.slice ar (offL n L).length cr) := ⟨_, rfl⟩
          rw [← hw7, ← hob] at H7
          have s1 : w7.cell? ⟨ob, 1, none⟩ = some (.int .i64 n) := tblk_cell (H7.out.f (ob, .cells #[.int .i64 3, .int .i64 n, .int .i64 t] 30) (by simp)).1 rfl
          have HPC := hidE (H7.out.op (P := fun e W' => e = .returned (.bool hb)) (n' := i) (now' := now) (L2 := offL n L) (fun X C => (C.drop (by have := HI.out; omega) n HIN.out hb HHB.out.symm _ rfl).mono fun e W' h => ⟨h.1, h.2.1, h.2.2⟩))
          clear HP O1 B5 B6 h11 h12 h13 nb6 H6 O6 H7
          rw [hw6] at hw7 u0 u1 y0 y1
          rw [hw7, hob] at s1
          clear n0 n1 hw6 hnb q0 q1
          go_wp2_with fail
          rw [← hw7]
          clear hw7 hob u0 u1 y0 y1 s1
          refine HPC.out.mono ?_
          rintro e w8 ⟨rfl, H8⟩
          have HT := hidE (H8.mono (Nat.le_succ i))
          clear HPC H8
          have HT2 := hidE (HT.out.less (G := []) (fun p hp => by cases hp))
          obtain ⟨ax, cx, hvx, rx⟩ := HT.out.r
          injection hvx with hvx1 hvx2 hvx3
          subst hvx1 hvx3
          clear hvx2
          have c0 := HT.out.d.c0
          have c1 := HT.out.d.c1
          have HTM := hidE HT.out.time
          clear HS HS1 HRD d0 d1 d2 HR HHB
          generalize hLL : offL n L = LL at *
          cases LL with
          | nil =>
            have H := hidE (HT2.out.next 0 false rfl)
            have z0 : decide ((0 : Int) < 0) = false := by decide
            clear HT rx hLL
            go_wp2_with fail
            refine H.out.mono ?_
            rintro e wy ⟨rfl, rfl⟩
            clear H
            go_wp2_with fail
            go_quiet (first | (go_at_call 17; exact Calls.quiet_of_same (HTM.out _)))
            have FN := hidE (HT2.out.drewN nq)
            clear HTM HT2 c0 c1
            go_wp2
            go_roundw
            case rel => exact ⟨i + 1, now, [], _, by omega, by go_num, FN, HR2⟩
            case measure => simp [intOf]; omega
          | cons p tl =>
            have H := hidE (HT2.out.next p.2 true rfl)
            obtain ⟨gx, ox, rfl, _, _⟩ := rx.at (j := 0) (x := p) rfl
            have x1 := (rx.d (j := 0) (p := p) rfl).2
            rw [Nat.zero_mul, Nat.add_zero] at x1
            obtain ⟨lx, hlx⟩ : ∃ lx : Nat, lx = (p :: tl).length := ⟨_, rfl⟩
            have z1 : (0 : Int) < lx := by rw [hlx]; show (0 : Int) < ((tl.length + 1 : Nat) : Int); omega
            have z2 : decide (0 < lx) = true := decide_eq_true (by omega)
            rw [← hlx] at c1
            clear HT rx hLL hlx
            go_wp2_with fail
            refine H.out.mono ?_
            rintro e wy ⟨rfl, rfl⟩
            clear H
            generalize p.2 = p2 at *
            go_wp2_with fail
            go_quiet (first | (go_at_call 17; exact Calls.quiet_of_same (HTM.out _)))
            have FN := hidE (HT2.out.drewN nq)
            clear HTM HT2 c0 c1 x1 z1 z2
            go_wp2
            go_roundw
            case rel => exact ⟨i + 1, now, p :: tl, _, by omega, by go_num, FN, HR2⟩
            case measure => simp [intOf]; omega

        by_cases e4 : k = 4
        · subst e4
          obtain ⟨m0, hm0⟩ : ∃ m0, max t 0 = m0 := ⟨_, rfl⟩
          obtain ⟨m1, hm1⟩ : ∃ m1, min m0 2199023255552 = m1 := ⟨_, rfl⟩
          obtain ⟨q, hq⟩ : ∃ q, m1 + now = q := ⟨_, rfl⟩
          have X0 := max_run t 0 m0 hm0
          have X1 := min_run m0 2199023255552 m1 hm1
          have fw : IntKind.i64.wrap (m1 + now) = q := by have bd := HS.out.bd; rw [IntKind.wrap_i64]; omega
          have q0 := HS1.out.d.c0
          clear hm0 hm1 hq
          obtain ⟨u, hu⟩ : ∃ u, min q 1099511627776 = u := ⟨_, rfl⟩
          have HU := hidE hu
          have bd := HS.out.bd
          have HLL0 : Hid (L.length ≤ 900000) := (by have := HI.out; omega : L.length ≤ 900000)
          have HP := hidE (HS1.out.op (P := fun e W' => e = .returned (.tuple #[])) (n' := i + 1) (now' := now) (L2 := insL (n, u) (offL n L)) (fun X C => (C.set (by have := HI.out; omega) n q u hu HIN.out _ rfl).mono fun e W' h => ⟨h.1, h.2.1, h.2.2⟩))
          have HR2 : Hid (∀ p ∈ insL (n, u) (offL n L), InR p.1) := ids_ins HIN.out HR.out
          obtain ⟨ob, hob⟩ : ∃ ob, ob = wr.heap.size := ⟨_, rfl⟩
          rw [← hob] at HP
          have HOB := hidE hob
          clear hu bd hob
          go_wp2_with fail
          refine HP.out.mono ?_
          rintro e w5 ⟨rfl, H5⟩
          have s1 : w5.cell? ⟨ob, 1, none⟩ = some (.int .i64 n) := tblk_cell (H5.f (ob, .cells #[.int .i64 4, .int .i64 n, .int .i64 t] 30) (by simp)).1 rfl
          have s2 : w5.cell? ⟨ob, 2, none⟩ = some (.int .i64 t) := tblk_cell (H5.f (ob, .cells #[.int .i64 4, .int .i64 n, .int .i64 t] 30) (by simp)).1 rfl
          have u0 := H5.d.c0
          have u1 := H5.d.c1
          obtain ⟨a5, c5, e5, R5⟩ := H5.r
          injection e5 with e51 e52 e53
          subst e51 e53
          clear e52
          have HP2 := hidE (set15_any now n q u HU.out L a c w5 R5 HLL0.out)
          have H5h := hidE H5
          rw [HOB.out] at s1 s2
          clear HP H5 R5
          go_wp2_with fail
          refine HP2.out.mono ?_
          rintro e w6 ⟨v6, rfl, O6, B6⟩
          obtain ⟨G1, h11, h12, h13⟩ := O6.hold
          obtain ⟨a6, c6, hv6, _, _⟩ := O6.rd ED
          subst hv6
          have H6 := H5h.out.grow (G := G1) B6 (fun p hp => h11 p hp)
          have H7 := H6.store (T2 := now) (h13 w6 (fun p hp => (H6.f p (by simp [hp])).1)) (fun g hg => by obtain ⟨o, ho⟩ := h12 g hg; exact ⟨o, by simp [ho]⟩)
          have v0 := H6.d.c0
          have v1 := H6.d.c1
          have y0 := H6.d.z 0
          have y1 := H6.d.z 1
          obtain ⟨w7, hw7⟩ : ∃ w7, w7 = (w6.setCell ⟨mb, 0, none⟩ (.int .i64 now)).setCell ⟨mb, 1, none⟩ (.slice a6 (insL (n, u) (offL n L)).length c6) := ⟨_, rfl⟩
          rw [← hw7] at H7
          have HT := hidE H7
          clear HP2 H5h O6 B6 h11 h12 h13 H6 H7 s1 s2 u0 u1
          go_wp2_with fail
          rw [← hw7]
          clear hw7 v0 v1 y0 y1
          have HT2 := hidE (HT.out.less (G := []) (fun p hp => by cases hp))
          obtain ⟨ax, cx, hvx, rx⟩ := HT.out.r
          injection hvx with hvx1 hvx2 hvx3
          subst hvx1 hvx3
          clear hvx2
          have c0 := HT.out.d.c0
          have c1 := HT.out.d.c1
          have HTM := hidE HT.out.time
          clear HS HS1 HRD d0 d1 d2 HR HU HLL0 HOB X0 X1 fw
          generalize hLL : insL (n, u) (offL n L) = LL at *
          cases LL with
          | nil =>
            have H := hidE (HT2.out.next 0 false rfl)
            have z0 : decide ((0 : Int) < 0) = false := by decide
            clear HT rx hLL
            skip
            refine H.out.mono ?_
            rintro e wy ⟨rfl, rfl⟩
            clear H
            go_wp2_with fail
            go_quiet (first | (go_at_call 17; exact Calls.quiet_of_same (HTM.out _)))
            have FN := hidE (HT2.out.drewN nq)
            clear HTM HT2 c0 c1
            go_wp2
            go_roundw
            case rel => exact ⟨i + 1, now, [], _, by omega, by go_num, FN, HR2⟩
            case measure => simp [intOf]; omega
          | cons p tl =>
            have H := hidE (HT2.out.next p.2 true rfl)
            obtain ⟨gx, ox, rfl, _, _⟩ := rx.at (j := 0) (x := p) rfl
            have x1 := (rx.d (j := 0) (p := p) rfl).2
            rw [Nat.zero_mul, Nat.add_zero] at x1
            obtain ⟨lx, hlx⟩ : ∃ lx : Nat, lx = (p :: tl).length := ⟨_, rfl⟩
            have z1 : (0 : Int) < lx := by rw [hlx]; show (0 : Int) < ((tl.length + 1 : Nat) : Int); omega
            have z2 : decide (0 < lx) = true := decide_eq_true (by omega)
            rw [← hlx] at c1
            clear HT rx hLL hlx
            skip
            refine H.out.mono ?_
            rintro e wy ⟨rfl, rfl⟩
            clear H
            generalize p.2 = p2 at *
            go_wp2_with fail
            go_quiet (first | (go_at_call 17; exact Calls.quiet_of_same (HTM.out _)))
            have FN := hidE (HT2.out.drewN nq)
            clear HTM HT2 c0 c1 x1 z1 z2
            go_wp2
            go_roundw
            case rel => exact ⟨i + 1, now, p :: tl, _, by omega, by go_num, FN, HR2⟩
            case measure => simp [intOf]; omega

        have f1 : (k == 1) = false := by simp [e1]
        have f2 : (k == 2) = false := by simp [e2]
        have f3 : (k == 3) = false := by simp [e3]
        have f4 : (k == 4) = false := by simp [e4]
        clear e1 e2 e3 e4
        have HT := hidE (HS1.out.mono (Nat.le_succ i))
        have HR2 := HR
        have HT2 := hidE (HT.out.less (G := []) (fun p hp => by cases hp))
        obtain ⟨ax, cx, hvx, rx⟩ := HT.out.r
        injection hvx with hvx1 hvx2 hvx3
        subst hvx1 hvx3
        clear hvx2
        have c0 := HT.out.d.c0
        have c1 := HT.out.d.c1
        have HTM := hidE HT.out.time
        clear HS HS1 HRD  HR HIN HIT
        generalize hLL : L = LL at *
        cases LL with
        | nil =>
          have H := hidE (HT2.out.next 0 false rfl)
          have z0 : decide ((0 : Int) < 0) = false := by decide
          clear HT rx hLL
          go_wp2_with fail
          refine H.out.mono ?_
          rintro e wy ⟨rfl, rfl⟩
          clear H
          go_wp2_with fail
          go_quiet (first | (go_at_call 17; exact Calls.quiet_of_same (HTM.out _)))
          have FN := hidE (HT2.out.drewN nq)
          clear HTM HT2 c0 c1
          go_wp2
          go_roundw
          case rel => exact ⟨i + 1, now, [], _, by omega, by go_num, FN, HR2⟩
          case measure => simp [intOf]; omega
        | cons p tl =>
          have H := hidE (HT2.out.next p.2 true rfl)
          obtain ⟨gx, ox, rfl, _, _⟩ := rx.at (j := 0) (x := p) rfl
          have x1 := (rx.d (j := 0) (p := p) rfl).2
          rw [Nat.zero_mul, Nat.add_zero] at x1
          obtain ⟨lx, hlx⟩ : ∃ lx : Nat, lx = (p :: tl).length := ⟨_, rfl⟩
          have z1 : (0 : Int) < lx := by rw [hlx]; show (0 : Int) < ((tl.length + 1 : Nat) : Int); omega
          have z2 : decide (0 < lx) = true := decide_eq_true (by omega)
          rw [← hlx] at c1
          clear HT rx hLL hlx
          go_wp2_with fail
          refine H.out.mono ?_
          rintro e wy ⟨rfl, rfl⟩
          clear H
          generalize p.2 = p2 at *
          go_wp2_with fail
          go_quiet (first | (go_at_call 17; exact Calls.quiet_of_same (HTM.out _)))
          have FN := hidE (HT2.out.drewN nq)
          clear HTM HT2 c0 c1 x1 z1 z2
          go_wp2
          go_roundw
          case rel => exact ⟨i + 1, now, p :: tl, _, by omega, by go_num, FN, HR2⟩
          case measure => simp [intOf]; omega

      · go_wp2
        go_ret
        exact ⟨rfl, HS.out.be⟩
end Go.Proofs.Ytofnnphpogpcdaa
