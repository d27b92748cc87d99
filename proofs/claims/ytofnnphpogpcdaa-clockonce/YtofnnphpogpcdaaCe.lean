/- ClockOnce: the walk. -/
import Derived.Test.YtofnnphpogpcdaaCf
namespace Go.Proofs.Ytofnnphpogpcdaa
open Go.ChangeShapes Go.WideShapes Go.ChangeAt Go.RowKit
set_option linter.unusedVariables false

theorem tmod_nat (a b : Nat) : Int.tmod (a : Int) (b : Int) = ((a % b : Nat) : Int) := (Int.ofNat_tmod a b).symm
theorem getD_snoc_lt {l : List Int} {x : Int} {j : Nat} (h : j < l.length) : (l ++ [x]).getD j 0 = l.getD j 0 := by
  rw [List.getD_eq_getElem?_getD, List.getD_eq_getElem?_getD, List.getElem?_append_left h]
theorem getD_snoc_eq {l : List Int} {x : Int} : (l ++ [x]).getD l.length 0 = x := by
  rw [List.getD_eq_getElem?_getD, List.getElem?_append_right (Nat.le_refl _), Nat.sub_self]; rfl
theorem drop_nil_pass {T : Int} {L : List Pr} (h : ∀ p ∈ L, p.2 ≤ T) : passR T L = [] := (pass_all h).2
set_option maxRecDepth 100000 in
set_option maxHeartbeats 4000000 in
theorem once15_walk (a1 a2 a3 : Option Addr) (len1 cap1 len2 cap2 cap3 : Nat) (zs : List Int) (w : World) (hO1 : Nums w a1 len1) (hO2 : Nums w a2 len2) (hR : RdR 1 encI w a3 cap3 zs) : Calls Try.prog 4 #[.slice a1 len1 cap1, .slice a2 len2 cap2, .slice a3 zs.length cap3] w fun e w' => e = .returned (.bool true) ∧ Below w.heap.size w w' := by
  obtain ⟨hl1, hO1⟩ := hO1
  obtain ⟨hl2, hO2⟩ := hO2
  have hmm := @ run_makeMap Try.prog
  have HN := hidE (CB.new w w (Below.refl _ _) (fun _ => False) (fun k hk => hk.elim))
  have HA := hidE (fun W => alive15_any W)
  have HO1 := hidE hO1
  have HO2 := hidE hO2
  have HRZ : Hid (∀ W, Below w.heap.size w W → RdR 1 encI W a3 cap3 zs) := fun W b => hR.keep b
  unfold maxLen at hl1 hl2
  obtain ⟨len3, hlen3⟩ : ∃ n, n = zs.length := ⟨_, rfl⟩
  have HL3 : Hid (zs.length = len3) := hlen3.symm
  rw [← hlen3]
  clear hO1 hO2 hR hlen3
  go_enter Try.func4, Try.ntmps4
  go_wp2_with fail
  refine HN.out.mono ?_
  rintro e w1 ⟨cb, mk, rfl, C, B⟩
  have HC := hidE C
  clear HN C B
  go_wp2_with fail
  refine (HA.out _).mono ?_
  rintro e w2 ⟨rfl, B2⟩
  have HC2 := hidE (HC.out.bel B2)
  clear HA HC B2
  rcases Nat.lt_or_ge 50 len1 with hx | hx
  · have h3 : decide ((50 : Int) < (len1 : Int)) = true := decide_eq_true (by omega)
    have HZ := hidE HC2.out.be
    clear HC2 hx
    go_wp2
    go_ret
    exact ⟨rfl, HZ.out⟩
  have h3 : decide ((50 : Int) < (len1 : Int)) = false := decide_eq_false (by omega)
  rcases Nat.lt_or_ge 50 len3 with hy | hy
  · have h4 : decide ((50 : Int) < (len3 : Int)) = true := decide_eq_true (by omega)
    have HZ := hidE HC2.out.be
    clear HC2 hx hy
    go_wp2
    go_ret
    exact ⟨rfl, HZ.out⟩
  have h4 : decide ((50 : Int) < (len3 : Int)) = false := decide_eq_false (by omega)
  have HX : Hid (len1 ≤ 50) := hx
  have HY : Hid (len3 ≤ 50) := hy
  have HS0 := hidE (OS.start HC2.out)
  have HT0 : Hid (∃ q, TM (w2.alloc (.map #[] 0)) w2.heap.size 0 0 q ∧ RQL q []) := ⟨_, TM.new w2, RQL.nil⟩
  obtain ⟨mb, hmb⟩ : ∃ mb, mb = w2.heap.size := ⟨_, rfl⟩
  rw [← hmb] at HS0 HT0
  clear hx hy HC2
  go_wp2_with fail
  rw [← hmb]
  clear h3 h4 hmb hmm
  go_loopw [42] (fun vi wr => ∃ (i : Nat) (L : List Pr), i ≤ len1 ∧ vi = .int .i64 i ∧ Hid (OS w (fun k => k = mb) cb mk mb i 0 L L wr) ∧ Hid (∃ q, TM wr mb i L.length q ∧ RQL q L) ∧ Hid (UpTo i 255 L)) (fun vi _ => len1 - (intOf vi).toNat)
  case atStart => exact ⟨0, [], Nat.zero_le _, rfl, HS0, HT0, ⟨rfl, fun p hp => by cases hp⟩⟩
  case round =>
    clear HS0 HT0
    obtain ⟨i, L, hi, rfl, HS, HT, HU⟩ := hrel
    by_cases hlt : i < len1
    · obtain ⟨b2, o2, rfl, hb2, hc2⟩ := HO1.out (by omega)
      obtain ⟨z, hz⟩ := hc2 i hlt
      have d0 := (HS.out.be.cell (p := ⟨b2, o2 + i, none⟩) hb2).trans hz
      have q1 : (0 : Int) ≤ i := by omega
      have q2 : (i : Int) < len1 := by omega
      obtain ⟨k, hk, kz⟩ := and_mask z 255 (by decide)
      have kz' : bits .and .i64 z 255 = (k : Int) := kz
      have HI : Hid (i ≤ 50) := (by have := HX.out; omega : i ≤ 50)
      have hno : ∀ p ∈ L, p.1 ≠ (i : Int) := fun p hp e => by have := (HU.out.2 p hp).2.1; omega
      obtain ⟨w4, r4, lk4, S4, g4, T4⟩ := HS.out.put (by have := HI.out; omega) HT.out (i : Int) (k : Int) (by have := HI.out; unfold InR; omega) (by unfold InR; omega) hno
      have HU2 := hidE (HU.out.next (k : Int) (by omega))
      have eo : offL (i : Int) L = L := off_none hno
      rw [eo] at HU2
      have H := hidE (S4.op (n' := i + 1) (now' := 0) (L' := insL ((i : Int), (k : Int)) L) (P := fun e _ => e = .returned (.tuple #[])) (Nat.le_succ i) (S4.c.set (by have := HI.out; omega) (i : Int) (k : Int) (k : Int) (by omega) (by have := HI.out; unfold InR; omega) _ (by rw [eo])))
      have HT4 := hidE T4
      clear hz hc2 hb2 HS HT HU kz hk hno S4 g4 T4 eo
      go_wp2_with (refine wpList_mapUpdate_run _ rfl _ _ _ 47 rfl _ _ _ w4 rfl rfl rfl r4 ?_; clear r4)
      refine H.out.mono ?_
      rintro e w5 ⟨rfl, S5, K5⟩
      have HS := hidE S5
      have HT : Hid (∃ q, TM w5 mb (i + 1) (insL ((i : Int), (k : Int)) L).length q ∧ RQL q (insL ((i : Int), (k : Int)) L)) := by
        obtain ⟨q, x1, x2⟩ := HT4.out
        exact ⟨q, x1.move (K5 mb rfl), x2⟩
      clear H S5 K5 HT4 d0 kz' lk4
      go_wp2
      go_roundw
      case rel => exact ⟨i + 1, _, by omega, by go_num, HS, HT, HU2⟩
      case measure => simp [intOf]; omega
    · obtain rfl : i = len1 := by omega
      have HU1 : Hid (∀ p ∈ L, 0 ≤ p.1 ∧ p.1 < (i : Int) ∧ p.2 ≤ 255) := HU.out.2
      have HS1 := hidE HS.out
      clear HS HT HU hlt
      go_wp2_with fail
      go_loopw [60] (fun vi wr => ∃ (j : Nat) (L : List Pr), j ≤ len2 ∧ vi = .int .i64 j ∧ Hid (OS w (fun k => k = mb) cb mk mb i 0 L L wr) ∧ Hid (∀ p ∈ L, 0 ≤ p.1 ∧ p.1 < (i : Int) ∧ p.2 ≤ 255)) (fun vi _ => len2 - (intOf vi).toNat)
      case atStart => exact ⟨0, L, Nat.zero_le _, rfl, HS1, HU1⟩
      case round =>
        clear HS1 HU1
        obtain ⟨j, L, hj, rfl, HS, HU⟩ := hrel
        by_cases hlt2 : j < len2
        · obtain ⟨b2, o2, rfl, hb2, hc2⟩ := HO2.out (by omega)
          obtain ⟨z, hz⟩ := hc2 j hlt2
          have d0 := (HS.out.be.cell (p := ⟨b2, o2 + j, none⟩) hb2).trans hz
          have q1 : (0 : Int) ≤ j := by omega
          have q2 : (j : Int) < len2 := by omega
          have q3 : len2 ≤ 9223372036854775807 := by omega
          clear hz hc2 hb2
          rcases Nat.eq_zero_or_pos i with hz0 | hz0
          · have e0 : decide ((0 : Int) < (i : Int)) = false := decide_eq_false (by omega)
            have e1 : decide (0 < i) = false := decide_eq_false (by omega)
            clear hz0
            go_wp2
            go_roundw
            case rel => exact ⟨j + 1, L, by omega, by go_num, HS, HU⟩
            case measure => simp [intOf]; omega
          · have e0 : decide ((0 : Int) < (i : Int)) = true := decide_eq_true (by omega)
            have e1 : decide (0 < i) = true := decide_eq_true hz0
            obtain ⟨k, hk, kz⟩ := and_mask z 1023 (by decide)
            have kz' : bits .and .i64 z 1023 = (k : Int) := kz
            obtain ⟨r, hr⟩ : ∃ r, k % i = r := ⟨_, rfl⟩
            have f1 : Int.tmod (k : Int) (i : Int) = (r : Int) := by rw [tmod_nat, hr]
            have f2 : ((i : Int) == 0) = false := by rw [beq_eq_false_iff_ne]; omega
            have f4 : ¬ (i : Int) = 0 := by omega
            have f5 : ¬ i = 0 := by omega
            have f3 : IntKind.i64.wrap (r : Int) = (r : Int) := by rw [IntKind.wrap_i64]; have := Nat.mod_lt k hz0; have := HX.out; omega
            have HRI : Hid (InR (r : Int)) := by have := Nat.mod_lt k hz0; have := HX.out; show InR (r : Int); unfold InR; omega
            obtain ⟨t, lk, _⟩ := HS.out.look (r : Int) HRI.out
            have H := hidE (HS.out.op (n' := i) (now' := 0) (L' := offL (r : Int) L) (P := fun e _ => e = .returned (.bool (hasL (r : Int) L))) (Nat.le_refl i) (HS.out.c.drop (by have := HX.out; omega) (r : Int) HRI.out _ rfl _ rfl))
            have HU2 : Hid (∀ p ∈ offL (r : Int) L, 0 ≤ p.1 ∧ p.1 < (i : Int) ∧ p.2 ≤ 255) := fun p hp => HU.out p (mem_off.1 hp).1
            clear HS HU kz hk hr hz0
            generalize hasL (r : Int) L = hs at *
            go_wp2_with fail
            refine H.out.mono ?_
            rintro e w5 ⟨rfl, S5, K5⟩
            obtain ⟨w6, r6, S6, g6⟩ := S5.del (r : Int) HRI.out
            have HS := hidE S6
            clear H S5 K5 S6 g6 d0 kz' f1 f2 f3 lk
            go_wp2_with (refine wpList_delete_run rfl _ _ 47 3 rfl _ _ w6 rfl rfl r6 ?_; clear r6)
            go_roundw
            case rel => exact ⟨j + 1, _, by omega, by go_num, HS, HU2⟩
            case measure => simp [intOf]; omega
        · obtain rfl : j = len2 := by omega
          have HT0 := hidE (os_rowsnd HS.out HRZ HL3.out HY.out)
          obtain ⟨v4, w4, r4, a5, c5, w5, r5, O5, S5⟩ := HT0.out
          obtain ⟨n3, hn3⟩ : ∃ n, n = len3 + 1 := ⟨_, rfl⟩
          have HN3 : Hid (n3 = len3 + 1) := hn3
          rw [← hn3] at r5 O5 S5
          have HS0 := hidE S5
          have HO0 := hidE O5
          obtain ⟨X5, hX5⟩ : ∃ X : Nat → Prop, X = fun k => k = mb ∨ Value.ownBlock (.slice a5 n3 c5) = some k := ⟨_, rfl⟩
          rw [← hX5] at HS0
          have HXX : Hid (∀ k, Value.ownBlock (.slice a5 n3 c5) = some k → X5 k) := fun k hk => by rw [hX5]; exact .inr hk
          clear HRZ hlt2 HS HT0 O5 S5 hX5 hn3
          go_wp2_with (at_builtin; first | (refine wpList_append_run2 rfl _ _ 31 31 rfl _ _ _ w4 rfl rfl r4 ?_; clear r4) | (refine wpList_append_run2 rfl _ _ 31 31 rfl _ _ _ w5 rfl rfl r5 ?_; clear r5))
          go_loopw [92] (fun vi wr' => ∃ (k : Nat) (T : Int) (L : List Pr), k ≤ n3 ∧ vi = .int .i64 k ∧ Hid (0 ≤ T ∧ T ≤ 255 * (k : Int)) ∧ Hid (OS w X5 cb mk mb i T L L wr') ∧ Hid (OwR 3 1 encI w.heap.size wr' (.slice a5 n3 c5) (zs ++ [255])) ∧ Hid (∀ p ∈ L, 0 ≤ p.1 ∧ p.1 < (i : Int) ∧ p.2 ≤ 255) ∧ Hid (k = n3 → L = [])) (fun vi _ => n3 - (intOf vi).toNat)
          case atStart => exact ⟨0, 0, L, Nat.zero_le _, rfl, ⟨by decide, by decide⟩, HS0, HO0, HU, fun e => by have := HN3.out; omega⟩
          case round =>
            clear HS0 HO0 HU
            obtain ⟨k, T, L1, hk3, rfl, HT, HS, HO, HU, HE⟩ := hrel
            by_cases hlt3 : k < n3
            · obtain ⟨g5, o5, z, m, rfl, d0, hm, kz, hm2⟩ := os_cell HO.out HL3.out HN3.out hlt3
              have q1 : (0 : Int) ≤ k := by omega
              have q2 : (k : Int) < n3 := by omega
              have HK : Hid (k ≤ 50) := by have := HN3.out; have := HY.out; show k ≤ 50; omega
              obtain ⟨T', hT'⟩ : ∃ T' : Int, T + (m : Int) = T' := ⟨_, rfl⟩
              obtain ⟨R, hR⟩ : ∃ R, passI T' L1 = R := ⟨_, rfl⟩
              obtain ⟨n, hn⟩ : ∃ n, R.length = n := ⟨_, rfl⟩
              obtain ⟨hs, hnd⟩ := HS.out.srt
              have HP := hidE (pass_at hs hR hn)
              have HND := hidE hnd
              have HRN := hidE hn
              have HT2 : Hid (0 ≤ T' ∧ T' ≤ 255 * ((k + 1 : Nat) : Int)) := by have := HT.out; exact ⟨by omega, by omega⟩
              have HE2 : Hid (k + 1 = n3 → L1.drop n = []) := fun e => by
                have e2 := hm2 (by have := HN3.out; omega)
                have e3 := HT.out.1
                rw [← HP.out.1]
                exact drop_nil_pass fun p hp => by have := (HU.out p hp).2.2; omega
              have H := hidE (HS.out.pass (by have := HX.out; omega) (fun p hp => by have := HU.out p hp; have := HX.out; unfold InR; omega) m T' (by have := HT.out; have := HK.out; omega) R hR n hn (L1.drop n) HP.out.1)
              clear hm hm2 HS HT HE hT' hs hnd hR hn
              go_wp2_with fail
              refine H.out.mono ?_
              rintro e w7 ⟨⟨a7, c7, rfl, R7⟩, S7, K7⟩
              have HS7 : Hid (OS w X5 cb mk mb i T' (L1.drop n) (L1.drop 0) w7) := S7
              have hnb : n ≤ 9223372036854775807 := by
                have h1 := R7.2.1
                have h2 := R7.2.2.1
                have h3 := HRN.out
                unfold maxLen at h2
                omega
              have HR7 := hidE R7
              have HO7 := hidE (HO.out.move fun g hg _ _ _ => K7 g (HXX.out g hg))
              clear H HO S7 R7 K7 d0 kz
              go_wp2_with fail
              go_loopw [101] (fun vi wr' => ∃ (q : Nat), q ≤ n ∧ vi = .int .i64 q ∧ Hid (OS w X5 cb mk mb i T' (L1.drop n) (L1.drop q) wr') ∧ Hid (RdR 1 encI wr' a7 c7 R) ∧ Hid (OwR 3 1 encI w.heap.size wr' (.slice (some ⟨g5, o5, none⟩) n3 c5) (zs ++ [255]))) (fun vi _ => n - (intOf vi).toNat)
              case atStart => exact ⟨0, Nat.zero_le _, rfl, HS7, HR7, HO7⟩
              case round =>
                clear HS7 HR7 HO7
                obtain ⟨q, hq, rfl, HS, HR, HO⟩ := hrel
                by_cases hlt4 : q < n
                · obtain ⟨p, hp1, hp2, hp3⟩ := HP.out.2 q hlt4
                  obtain ⟨g7, o7, rfl, hg7, hc7⟩ := HR.out.at hp2
                  have d0 : wr.cell? ⟨g7, o7 + q, none⟩ = some (.int .i64 p.1) := by
                    have := hc7 0 (by decide)
                    rwa [Nat.mul_one, Nat.add_zero] at this
                  have hd : (p.1, p.2) ∈ L1.drop q := by
                    obtain ⟨hk, e⟩ := List.getElem?_eq_some_iff.1 hp1
                    rw [List.drop_eq_getElem_cons hk, e]
                    exact List.mem_cons_self
                  have hpi := HU.out p (List.mem_of_getElem? hp1)
                  have hid : InR p.1 := by have := HX.out; unfold InR; omega
                  obtain ⟨t, lk, hu⟩ := HS.out.look p.1 hid
                  obtain rfl : t = p.2 := hu _ hd
                  have hh : hasL p.1 (L1.drop q) = true := hasL_iff.2 ⟨p, hd, rfl⟩
                  rw [hh] at lk
                  have f1 : decide (T' < p.2) = false := decide_eq_false (by omega)
                  have H := hidE HS.out.c.time
                  obtain ⟨w6, r6, S6, g6⟩ := HS.out.del p.1 hid
                  rw [drop_off HND.out hp1] at S6
                  have HS6 := hidE S6
                  obtain ⟨_, _, _, tm, _⟩ := HS.out.t
                  have HR6 := hidE (rd_map HR.out tm g6)
                  have HO6 := hidE (ow_map HO.out tm g6)
                  have q3 : (0 : Int) ≤ q := by omega
                  have q4 : (q : Int) < n := by omega
                  clear S6 g6 tm hh hu hid hpi hd hc7 hg7 hp1 hp2 hp3 HS HR HO
                  obtain ⟨x, y⟩ := p
                  simp only at d0 lk f1 r6
                  go_wp2_with fail
                  refine H.out.mono ?_
                  rintro e w8 ⟨rfl, rfl⟩
                  clear H
                  go_wp2_with (refine wpList_delete_run rfl _ _ 47 3 rfl _ _ w6 rfl rfl r6 ?_; clear r6)
                  go_roundw
                  case rel => exact ⟨q + 1, by omega, by go_num, HS6, HR6, HO6⟩
                  case measure => simp [intOf]; omega
                · obtain rfl : q = n := by omega
                  obtain ⟨wb, hwb⟩ : ∃ wb, wb = wr := ⟨_, rfl⟩
                  subst hwb
                  obtain ⟨qf, nm, _, ⟨D, hom, hsz, hD⟩, hRQ⟩ := HS.out.t
                  have HEN : Hid (∀ x c, (∀ zd, D.atKey (.int .i64 x) zd = .lit (.int .i64 c)) → T' < c) := fun x c hat => by
                    have := os_entry hD hRQ hat
                    rw [← HP.out.1] at this
                    exact passR_gt this
                  have HU2 : Hid (∀ p ∈ L1.drop q, 0 ≤ p.1 ∧ p.1 < (i : Int) ∧ p.2 ≤ 255) := fun p hp => HU.out p (List.mem_of_mem_drop hp)
                  clear hsz hD hRQ HR HU HP HND
                  go_wp2_with (at_range; refine wpList_range_own _ rfl _ 47 rfl 3 2 KIt Try.underlying47 _ mb nm D rfl hom ?_; intro w0 hrg0 hg0 hs0)
                  try go_frame
                  have HRG0 := hidE hrg0
                  have HB0 : Hid (Below wb.heap.size wb w0) := (Below.refl _ _).grown hg0 (Nat.le_refl _) (fun k e => by cases e)
                  clear hrg0 hg0 hs0 hom
                  go_loopw [] (fun wr => ∃ (left : Lit → Bool) (cnt : Nat), Hid (wr.ranges Try.prog 3 (plainElem Try.prog 2) mb wb.heap.size nm D left cnt) ∧ Hid (Below wb.heap.size wb wr)) (fun wr => wr.rangeLeft mb wb.heap.size)
                  case atStart => exact ⟨_, _, HRG0, HB0⟩
                  case round =>
                    clear HRG0 HB0
                    obtain ⟨left, cnt, HRG, HB⟩ := hrel
                    have hrg := HRG.out
                    go_wp2_with (at_next; refine wpList_next_ranges_ii _ rfl _ rfl 3 2 .i64 .i64 KIt Try.underlying3 Try.underlying2 mb wb.heap.size nm D left cnt rfl hrg ?_ ?_)
                    · intro hc0 hl0
                      have HS2 := hidE (HS.out.bel HB.out)
                      have HO2 := hidE (HO.out.grow HB.out)
                      clear hc0 hl0 hrg HRG HB HS HO HEN
                      have hb3 : n3 ≤ 51 := by have := HN3.out; have := HY.out; omega
                      go_wp2
                      go_roundw
                      case rel => exact ⟨k + 1, T', L1.drop q, by omega, by go_num, HT2, HS2, HO2, HU2, HE2⟩
                      case measure => simp [intOf]; omega
                    · intro x c w1 cnt1 hwx hwc hlx hat hrg1 hlt1 hg1 hs1 hen
                      have hgt := HEN.out x c hat
                      have f1 : decide (c ≤ T') = false := decide_eq_false (by omega)
                      have HB1 : Hid (Below wb.heap.size wb w1) := HB.out.grown hg1 HB.out.size (fun k e => by cases e; exact Nat.le_refl _)
                      have HR1 := hidE hrg1
                      have HLT := hidE hlt1
                      have H := hidE (HS.out.bel HB1.out).c.time
                      clear hgt hat hwx hwc hlx hg1 hs1 HB hlt1 hrg1
                      go_wp2_with fail
                      refine H.out.mono ?_
                      rintro e w8 ⟨rfl, rfl⟩
                      clear H
                      go_wp2
                      go_roundw
                      case rel => exact ⟨_, cnt1, HR1, HB1⟩
                      case measure =>
                        rw [HR1.out.left_eq, hrg.left_eq]
                        exact HLT.out
            · obtain rfl : k = n3 := by omega
              obtain rfl : L1 = [] := HE.out rfl
              have ln := HS.out.len
              have HBE := hidE HS.out.be
              clear HS HT HO HE
              go_wp2
              go_ret
              exact ⟨rfl, HBE.out⟩
end Go.Proofs.Ytofnnphpogpcdaa
