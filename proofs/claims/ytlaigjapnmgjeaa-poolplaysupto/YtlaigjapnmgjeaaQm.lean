/- PoolPlays: its walk (written by qm.py). -/
import Derived.Test.YtlaigjapnmgjeaaQl
import Derived.Test.YtlaigjapnmgjeaaPoM
import Derived.Deep.RegionHeld3
namespace Go.Proofs.Ytlaigjapnmgjeaa
open Go.RowKit Go.Shelf
set_option linter.unusedVariables false

/-- Behind i calls. -/
def PDE (w : World) (pb mk mb : Nat) (b : Int) (i : Nat) (W : World) : Prop := ∃ n last q rs R a c L, n ≤ i ∧ PD w [] pb mk mb n b last q rs R a c L W
set_option maxRecDepth 100000 in
set_option maxHeartbeats 40000000 in
theorem plays17_walk (m : Int) (ad : Option Addr) (len cap : Nat) (w : World) (hO : OpsP w ad len) (hA : ∀ b2 o2, ad = some ⟨b2, o2, none⟩ → ∀ i, i < len → ∀ s : KS, w.cell? ⟨b2, o2 + i * 8 + 2, none⟩ = some (.string s) → s.size ≤ 281474976710656) : Calls Try.prog 3 #[.int .i64 m, .slice ad len cap] w fun e w' => e = .returned (.bool true) ∧ Below w.heap.size w w' := by
  obtain ⟨hl, hO⟩ := hO
  unfold maxLen at hl
  obtain ⟨b, hb⟩ : ∃ b, min (max m 0) 64 = b := ⟨_, rfl⟩
  have HN := hidE (new_pi m b w hb)
  have HL := hidE (fun W => lending_any W)
  have HRN := hidE (fun W => r17new_any m b hb W)
  clear hb
  go_enter Try.func3, Try.ntmps3
  go_wp2_with fail
  refine HN.out.mono ?_
  rintro e w1 ⟨rfl, C1⟩
  generalize hpb : w.heap.size + 1 = pb at C1 ⊢
  generalize hmk : w.heap.size = mk at C1
  subst hmk
  clear HN hpb
  go_wp2_with fail
  refine (HL.out _).mono ?_
  rintro e w2 ⟨rfl, B2⟩
  have C2 := C1.bel B2
  clear HL C1 B2
  rcases Nat.lt_or_ge 300 len with hlen | hlen
  · have h3 : (300 : Int) < (len : Int) := by omega
    have HZ := hidE C2.be
    clear C2 HRN
    go_wp2
    go_ret
    exact ⟨rfl, HZ.out⟩
  · have h3 : decide ((300 : Int) < (len : Int)) = false := decide_eq_false (by omega)
    have HC2 := hidE C2
    clear C2
    go_wp2_with fail
    refine (HRN.out _).mono ?_
    rintro e w3 ⟨rfl, B3⟩
    have HP0 := hidE (PD.start (HC2.out.bel B3))
    clear HC2 HRN B3
    obtain ⟨w4, hw4⟩ : ∃ w4, w4 = w3.alloc (.cells #[.int .i64 b, .int .i64 0, .int .i64 0, .slice none 0 0] 28) := ⟨_, rfl⟩
    obtain ⟨mb, hmb⟩ : ∃ mb, mb = w3.heap.size := ⟨_, rfl⟩
    rw [← hw4, ← hmb] at HP0
    go_wp2_with fail
    rw [← hw4, ← hmb]
    clear hw4 hmb h3
    go_loopw [31] (fun vi wr => ∃ (i : Nat), i ≤ len ∧ vi = .int .i64 i ∧ Hid (PDE w pb w.heap.size mb b i wr)) (fun vi _ => len - (intOf vi).toNat)
    case atStart => exact ⟨0, Nat.zero_le _, rfl, ⟨0, _, _, _, _, _, _, _, Nat.le_refl _, HP0.out⟩⟩
    case round =>
      clear HP0
      obtain ⟨i, hi, rfl, HP⟩ := hrel
      by_cases hlt : i < len
      · obtain ⟨b2, o2, rfl, hb2, hc2⟩ := hO (by omega)
        obtain ⟨k, h, s, hk, hh, hs, u, xa, xl, xc, nw, fl, co, hq1, hq2, hq3, g0, g1, g2, g3, g4, g5, g6, g7⟩ := hc2 i hlt
        obtain ⟨n, last, q, rs, R, a, c, L, hni, HPD⟩ := HP.out
        have bel := HPD.pm.be
        have d0 := (bel.cell (p := ⟨b2, o2 + i * 8, none⟩) hb2).trans g0
        have d1 := (bel.cell (p := ⟨b2, o2 + i * 8 + 1, none⟩) hb2).trans g1
        have d2 := (bel.cell (p := ⟨b2, o2 + i * 8 + 2, none⟩) hb2).trans g2
        have d3 := (bel.cell (p := ⟨b2, o2 + i * 8 + 3, none⟩) hb2).trans g3
        have d4 := (bel.cell (p := ⟨b2, o2 + i * 8 + 4, none⟩) hb2).trans g4
        have d5 := (bel.cell (p := ⟨b2, o2 + i * 8 + 5, none⟩) hb2).trans g5
        have d6 := (bel.cell (p := ⟨b2, o2 + i * 8 + 6, none⟩) hb2).trans g6
        have d7 := (bel.cell (p := ⟨b2, o2 + i * 8 + 7, none⟩) hb2).trans g7
        have hlt' : (i : Int) < (len : Int) := by omega
        have hss : s.size ≤ 281474976710656 := hA b2 o2 rfl i hlt s g2
        have HX : Hid (InR h ∧ n ≤ i ∧ i ≤ 300) := ⟨hh, hni, by omega⟩
        have HNI : Hid (n + 1 ≤ i + 1) := Nat.succ_le_succ hni
        have mlt : mb < wr.heap.size := HPD.pm.bk.lt
        have mc0 := HPD.pm.bk.c0
        have mc1 := HPD.pm.bk.c1
        have mc2 := HPD.pm.bk.c2
        have mc3 := HPD.pm.bk.c3
        have mz0 := HPD.pm.bk.z 0
        have mz1 := HPD.pm.bk.z 1
        have mz2 := HPD.pm.bk.z 2
        have mz3 := HPD.pm.bk.z 3
        have HP1 := hidE (HPD.newF (Obj.cells #[.int .i64 k, .int .i64 h, .string s, .string u, .slice xa xl xc, .int .i64 nw, .int .i64 fl, .int .i64 co] 34))
        obtain ⟨ln, hln⟩ : ∃ ln, ln = L.length := ⟨_, rfl⟩
        have HLN := hidE hln
        rw [← hln] at mc3
        have HQ0 := hidE ((Below.heap_alloc wr (Obj.cells #[.int .i64 k, .int .i64 h, .string s, .string u, .slice xa xl xc, .int .i64 nw, .int .i64 fl, .int .i64 co] 34) mb mlt).trans HPD.pm.bk)
        clear g0 g1 g2 g3 g4 g5 g6 g7 bel hc2 hO hA HP hq1 hq2 hq3 hs hh hni HPD hln
        by_cases e1 : k = 1
        · subst e1
          have HJ := hidE (HP1.out.take (by have := HX.out.2; omega) s hss)
          rw [← HLN.out] at HJ
          clear HP1
          go_wp2_with fail
          refine HJ.out.mono ?_
          rintro e V ⟨a2, c2, L2, l2, x, sh, f, er, rfl, BV, HT0⟩
          obtain ⟨ln2, hln2⟩ : ∃ ln2, ln2 = L2.length := ⟨_, rfl⟩
          have HT := hidE HT0
          unfold Then17 at HT
          rw [← hln2] at HT ⊢
          have HLN2 := hidE hln2
          have vb := hidE BV
          have md0 := (BV.block mb (by simp; omega)).trans (HQ0.out)
          have vlt : mb < V.heap.size := (Array.getElem?_eq_some_iff.1 md0).1
          have md : V.cell? ⟨wr.heap.size, 1, none⟩ = some (.int .i64 h) := tblk_cell ((BV.block wr.heap.size (by simp)).trans (tblk_new _ _)) rfl
          have md2 : V.cell? ⟨wr.heap.size, 2, none⟩ = some (.string s) := tblk_cell ((BV.block wr.heap.size (by simp)).trans (tblk_new _ _)) rfl
          have wlt : wr.heap.size < V.heap.size := Nat.lt_of_lt_of_le (by simp) BV.size
          have vc0 := PBk.c0 md0
          have vc1 := PBk.c1 md0
          have vc2 := PBk.c2 md0
          have vc3 := PBk.c3 md0
          have n0 : V.frozen? ⟨mb, 0, none⟩ = false := by simp [World.frozen?, md0]
          have n1 : V.frozen? ⟨mb, 1, none⟩ = false := by simp [World.frozen?, md0]
          have n2 : V.frozen? ⟨mb, 2, none⟩ = false := by simp [World.frozen?, md0]
          have n3 : V.frozen? ⟨mb, 3, none⟩ = false := by simp [World.frozen?, md0]
          have ne1 : ¬ wr.heap.size = mb := by omega
          have ne2 : ¬ mb = wr.heap.size := by omega
          clear HJ HT0 BV md0 hln2 mc0 mc1 mc2 mc3 mz0 mz1 mz2 mz3 d0 d1 d2 d3 d4 d5 d6 d7 HQ0
          go_wp2_with fail
          rw [set4_alloc _ _ _ _ _ _ _ vlt, set4_alloc _ _ _ _ _ _ _ (show mb < (V.alloc _).heap.size by simp; omega)]
          refine (HT.out _ [(V.heap.size, Obj.cells #[.int .i64 b, .int .i64 l2, .int .i64 R, .slice a2 ln2 c2] 28), (V.heap.size + 1, Obj.cells #[.int .i64 x, .int .i64 sh, .bool f] 36)] (((Below.refl _ _).alloc (Nat.le_refl _) _).alloc (by simp) _) (two_kept V _ _)).mono ?_
          rintro e w5 ⟨rfl, q2, rs2, P3⟩
          generalize hFF : [(V.heap.size, Obj.cells #[.int .i64 b, .int .i64 l2, .int .i64 R, .slice a2 ln2 c2] 28), (V.heap.size + 1, Obj.cells #[.int .i64 x, .int .i64 sh, .bool f] 36)] ++ [(wr.heap.size, Obj.cells #[.int .i64 1, .int .i64 h, .string s, .string u, .slice xa xl xc, .int .i64 nw, .int .i64 fl, .int .i64 co] 34)] = FF at P3
          have HFF := hidE hFF
          have f12 := P3.pm.fr (V.heap.size + 1, Obj.cells #[.int .i64 x, .int .i64 sh, .bool f] 36) (by rw [← hFF]; simp)
          have f120 : w5.cell? ⟨V.heap.size + 1, 0, none⟩ = some (.int .i64 x) := tblk_cell f12 rfl
          have f121 : w5.cell? ⟨V.heap.size + 1, 1, none⟩ = some (.int .i64 sh) := tblk_cell f12 rfl
          have f122 : w5.cell? ⟨V.heap.size + 1, 2, none⟩ = some (.bool f) := tblk_cell f12 rfl
          have v2lt : V.heap.size + 1 < w5.heap.size := (Array.getElem?_eq_some_iff.1 f12).1
          replace P3 := hidE (P3.bel ((Below.refl _ _).alloc (Nat.le_refl _) (Obj.cells #[.int .i64 x, .int .i64 sh, .bool f] 39)))
          clear hFF f12 HT vb md md2 vlt wlt vc0 vc1 vc2 vc3 n0 n1 n2 n3 ne1 ne2
          have SK : Hid (∀ V, Hid (PD w FF pb w.heap.size mb (n + 1) b l2 q2 rs2 R a2 c2 L2 V) → Hid (PD w FF pb w.heap.size mb (n + 1) b l2 q2 rs2 R a2 c2 L2 V) ∧ V.cell? ⟨mb, 0, none⟩ = some (.int .i64 b) ∧ V.cell? ⟨mb, 1, none⟩ = some (.int .i64 l2) ∧ V.cell? ⟨mb, 2, none⟩ = some (.int .i64 R) ∧ V.cell? ⟨mb, 3, none⟩ = some (.slice a2 ln2 c2) ∧ V.cell? ⟨wr.heap.size, 1, none⟩ = some (.int .i64 h)) := fun V hV => ⟨hV, hV.out.pm.bk.c0, hV.out.pm.bk.c1, hV.out.pm.bk.c2, by rw [HLN2.out]; exact hV.out.pm.bk.c3, tblk_cell (hV.out.pm.fr (wr.heap.size, Obj.cells #[.int .i64 1, .int .i64 h, .string s, .string u, .slice xa xl xc, .int .i64 nw, .int .i64 fl, .int .i64 co] 34) (by rw [← HFF.out]; simp)) rfl⟩
          obtain ⟨st, hst⟩ : ∃ st, (lookH (q2 h)).2 = st := ⟨_, rfl⟩
          obtain ⟨A, hA⟩ : ∃ A, (lookH (q2 h)).1 = A := ⟨_, rfl⟩
          obtain ⟨st2, hst2⟩ : ∃ st, (lookH (q2 l2)).2 = st := ⟨_, rfl⟩
          have HI2 : Hid (InR l2 ∧ n + 1 ≤ 900) := ⟨by have := P3.out.pm.qi.l0; have := P3.out.pm.qi.ln; have := HX.out.2; unfold InR; omega, by have := HX.out.2; omega⟩
          have H1 : Hid (∀ V, Hid (PD w FF pb w.heap.size mb (n + 1) b l2 q2 rs2 R a2 c2 L2 V) → Calls Try.prog 16 #[.pointer (some ⟨pb, 0, none⟩)] V fun e W' => e = .returned (.int .i64 ln2) ∧ Hid (PD w FF pb w.heap.size mb (n + 1) b l2 q2 rs2 R a2 c2 L2 W')) := fun V hV => by rw [HLN2.out]; exact PD.len hV
          have H2 : Hid (∀ V, Hid (PD w FF pb w.heap.size mb (n + 1) b l2 q2 rs2 R a2 c2 L2 V) → Calls Try.prog 17 #[.pointer (some ⟨pb, 0, none⟩), .int .i64 h] V fun e W' => e = .returned (.int .i64 st) ∧ Hid (PD w FF pb w.heap.size mb (n + 1) b l2 q2 rs2 R a2 c2 L2 W')) := fun V hV => PD.state hV h HX.out.1 st hst
          have H3 : Hid (∀ V, Hid (PD w FF pb w.heap.size mb (n + 1) b l2 q2 rs2 R a2 c2 L2 V) → Calls Try.prog 18 #[.agg #[.int .i64 b, .int .i64 l2, .int .i64 R, .slice a2 ln2 c2], .int .i64 h] V fun e W' => e = .returned (.int .i64 st) ∧ Hid (PD w FF pb w.heap.size mb (n + 1) b l2 q2 rs2 R a2 c2 L2 W')) := fun V hV => by rw [HLN2.out]; exact PD.rstate hV HI2.out.2 h st hst
          have H4 : Hid (∀ V, Hid (PD w FF pb w.heap.size mb (n + 1) b l2 q2 rs2 R a2 c2 L2 V) → Calls Try.prog 19 #[.pointer (some ⟨pb, 0, none⟩), .int .i64 h] V fun e W' => e = .returned (.string A) ∧ Hid (PD w FF pb w.heap.size mb (n + 1) b l2 q2 rs2 R a2 c2 L2 W')) := fun V hV => PD.aim hV h HX.out.1 A hA
          have H5 : Hid (∀ V, Hid (PD w FF pb w.heap.size mb (n + 1) b l2 q2 rs2 R a2 c2 L2 V) → Calls Try.prog 20 #[.agg #[.int .i64 b, .int .i64 l2, .int .i64 R, .slice a2 ln2 c2], .int .i64 h] V fun e W' => e = .returned (.string A) ∧ Hid (PD w FF pb w.heap.size mb (n + 1) b l2 q2 rs2 R a2 c2 L2 W')) := fun V hV => by rw [HLN2.out]; exact PD.raim hV HI2.out.2 h A hA
          have H6 : Hid (∀ V, Hid (PD w FF pb w.heap.size mb (n + 1) b l2 q2 rs2 R a2 c2 L2 V) → Calls Try.prog 17 #[.pointer (some ⟨pb, 0, none⟩), .int .i64 l2] V fun e W' => e = .returned (.int .i64 st2) ∧ Hid (PD w FF pb w.heap.size mb (n + 1) b l2 q2 rs2 R a2 c2 L2 W')) := fun V hV => PD.state hV l2 HI2.out.1 st2 hst2
          have H7 : Hid (∀ V, Hid (PD w FF pb w.heap.size mb (n + 1) b l2 q2 rs2 R a2 c2 L2 V) → Calls Try.prog 18 #[.agg #[.int .i64 b, .int .i64 l2, .int .i64 R, .slice a2 ln2 c2], .int .i64 l2] V fun e W' => e = .returned (.int .i64 st2) ∧ Hid (PD w FF pb w.heap.size mb (n + 1) b l2 q2 rs2 R a2 c2 L2 W')) := fun V hV => by rw [HLN2.out]; exact PD.rstate hV HI2.out.2 l2 st2 hst2
          have haa : (ByteArray.toList A == ByteArray.toList A) = true := beq_self_eq_true _
          clear hst hA hst2 HLN2 HFF HI2
          have K0 := hidE (P3.out.bel (show Below (w5.alloc (Obj.cells #[.int .i64 x, .int .i64 sh, .bool f] 39)).heap.size (w5.alloc (Obj.cells #[.int .i64 x, .int .i64 sh, .bool f] 39)) (w5.alloc (Obj.cells #[.int .i64 x, .int .i64 sh, .bool f] 39)).drew from (Below.refl _ _).drew))
          have S0 := SK.out _ P3
          have KS := K0
          have SS := SK.out _ K0
          clear K0 P3 HX
          go_wp2_with fail
          go_region_held3 (fun V => Hid (PD w FF pb w.heap.size mb (n + 1) b l2 q2 rs2 R a2 c2 L2 V) ∧ V.cell? ⟨mb, 0, none⟩ = some (.int .i64 b) ∧ V.cell? ⟨mb, 1, none⟩ = some (.int .i64 l2) ∧ V.cell? ⟨mb, 2, none⟩ = some (.int .i64 R) ∧ V.cell? ⟨mb, 3, none⟩ = some (.slice a2 ln2 c2) ∧ V.cell? ⟨wr.heap.size, 1, none⟩ = some (.int .i64 h)) (first | exact SS | exact S0 | go_keep) (first
            | (go_simp; go_at_call 16; refine Calls.mono (H1.out _ KS) ?_; rintro e W1 ⟨rfl, KS⟩; have SS := SK.out _ KS)
            | (go_simp; go_at_call 17; refine Calls.mono (H2.out _ KS) ?_; rintro e W1 ⟨rfl, KS⟩; have SS := SK.out _ KS; clear H2)
            | (go_simp; go_at_call 18; refine Calls.mono (H3.out _ KS) ?_; rintro e W1 ⟨rfl, KS⟩; have SS := SK.out _ KS; clear H3)
            | (go_simp; go_at_call 19; refine Calls.mono (H4.out _ KS) ?_; rintro e W1 ⟨rfl, KS⟩; have SS := SK.out _ KS)
            | (go_simp; go_at_call 20; refine Calls.mono (H5.out _ KS) ?_; rintro e W1 ⟨rfl, KS⟩; have SS := SK.out _ KS)
            | (go_simp; go_at_call 17; refine Calls.mono (H6.out _ KS) ?_; rintro e W1 ⟨rfl, KS⟩; have SS := SK.out _ KS)
            | (go_simp; go_at_call 18; refine Calls.mono (H7.out _ KS) ?_; rintro e W1 ⟨rfl, KS⟩; have SS := SK.out _ KS))
          clear H1 H4 H5 H6 H7 SK SS S0
          go_wp2
          go_roundw
          case rel => exact ⟨i + 1, by omega, by go_num, ⟨n + 1, l2, q2, rs2, R, a2, c2, L2, HNI.out, KS.out.less (fun p hp => by cases hp)⟩⟩
          case measure => simp [intOf]; omega
        by_cases e2 : k = 2
        · subst e2
          have HJ := hidE (HP1.out.joined (by have := HX.out.2; omega) h HX.out.1)
          rw [← HLN.out] at HJ
          clear HP1
          go_wp2_with fail
          refine HJ.out.mono ?_
          rintro e V ⟨a2, c2, L2, r, rfl, BV, HT0⟩
          obtain ⟨ln2, hln2⟩ : ∃ ln2, ln2 = L2.length := ⟨_, rfl⟩
          have HT := hidE HT0
          unfold Then17 at HT
          rw [← hln2] at HT ⊢
          have HLN2 := hidE hln2
          have vb := hidE BV
          have md0 := (BV.block mb (by simp; omega)).trans (HQ0.out)
          have vlt : mb < V.heap.size := (Array.getElem?_eq_some_iff.1 md0).1
          have md : V.cell? ⟨wr.heap.size, 1, none⟩ = some (.int .i64 h) := tblk_cell ((BV.block wr.heap.size (by simp)).trans (tblk_new _ _)) rfl
          have md2 : V.cell? ⟨wr.heap.size, 2, none⟩ = some (.string s) := tblk_cell ((BV.block wr.heap.size (by simp)).trans (tblk_new _ _)) rfl
          have wlt : wr.heap.size < V.heap.size := Nat.lt_of_lt_of_le (by simp) BV.size
          have vc0 := PBk.c0 md0
          have vc1 := PBk.c1 md0
          have vc2 := PBk.c2 md0
          have vc3 := PBk.c3 md0
          have n0 : V.frozen? ⟨mb, 0, none⟩ = false := by simp [World.frozen?, md0]
          have n1 : V.frozen? ⟨mb, 1, none⟩ = false := by simp [World.frozen?, md0]
          have n2 : V.frozen? ⟨mb, 2, none⟩ = false := by simp [World.frozen?, md0]
          have n3 : V.frozen? ⟨mb, 3, none⟩ = false := by simp [World.frozen?, md0]
          have ne1 : ¬ wr.heap.size = mb := by omega
          have ne2 : ¬ mb = wr.heap.size := by omega
          clear HJ HT0 BV md0 hln2 mc0 mc1 mc2 mc3 mz0 mz1 mz2 mz3 d0 d1 d2 d3 d4 d5 d6 d7 HQ0
          go_wp2_with fail
          refine (HT.out V [] (Below.refl _ _) (fun p hp => by cases hp)).mono ?_
          rintro e w5 ⟨rfl, q2, rs2, P3⟩
          replace P3 := hidE P3
          clear HT vb md md2 vlt wlt vc0 vc1 vc2 vc3 n0 n1 n2 n3 ne1 ne2
          generalize hFF : [] ++ [(wr.heap.size, Obj.cells #[.int .i64 2, .int .i64 h, .string s, .string u, .slice xa xl xc, .int .i64 nw, .int .i64 fl, .int .i64 co] 34)] = FF at P3
          have HFF := hidE hFF
          clear hFF
          have SK : Hid (∀ V, Hid (PD w FF pb w.heap.size mb (n + 1) b last q2 rs2 R a2 c2 L2 V) → Hid (PD w FF pb w.heap.size mb (n + 1) b last q2 rs2 R a2 c2 L2 V) ∧ V.cell? ⟨mb, 0, none⟩ = some (.int .i64 b) ∧ V.cell? ⟨mb, 1, none⟩ = some (.int .i64 last) ∧ V.cell? ⟨mb, 2, none⟩ = some (.int .i64 R) ∧ V.cell? ⟨mb, 3, none⟩ = some (.slice a2 ln2 c2) ∧ V.cell? ⟨wr.heap.size, 1, none⟩ = some (.int .i64 h)) := fun V hV => ⟨hV, hV.out.pm.bk.c0, hV.out.pm.bk.c1, hV.out.pm.bk.c2, by rw [HLN2.out]; exact hV.out.pm.bk.c3, tblk_cell (hV.out.pm.fr (wr.heap.size, Obj.cells #[.int .i64 2, .int .i64 h, .string s, .string u, .slice xa xl xc, .int .i64 nw, .int .i64 fl, .int .i64 co] 34) (by rw [← HFF.out]; simp)) rfl⟩
          obtain ⟨st, hst⟩ : ∃ st, (lookH (q2 h)).2 = st := ⟨_, rfl⟩
          obtain ⟨A, hA⟩ : ∃ A, (lookH (q2 h)).1 = A := ⟨_, rfl⟩
          obtain ⟨st2, hst2⟩ : ∃ st, (lookH (q2 last)).2 = st := ⟨_, rfl⟩
          have HI2 : Hid (InR last ∧ n + 1 ≤ 900) := ⟨by have := P3.out.pm.qi.l0; have := P3.out.pm.qi.ln; have := HX.out.2; unfold InR; omega, by have := HX.out.2; omega⟩
          have H1 : Hid (∀ V, Hid (PD w FF pb w.heap.size mb (n + 1) b last q2 rs2 R a2 c2 L2 V) → Calls Try.prog 16 #[.pointer (some ⟨pb, 0, none⟩)] V fun e W' => e = .returned (.int .i64 ln2) ∧ Hid (PD w FF pb w.heap.size mb (n + 1) b last q2 rs2 R a2 c2 L2 W')) := fun V hV => by rw [HLN2.out]; exact PD.len hV
          have H2 : Hid (∀ V, Hid (PD w FF pb w.heap.size mb (n + 1) b last q2 rs2 R a2 c2 L2 V) → Calls Try.prog 17 #[.pointer (some ⟨pb, 0, none⟩), .int .i64 h] V fun e W' => e = .returned (.int .i64 st) ∧ Hid (PD w FF pb w.heap.size mb (n + 1) b last q2 rs2 R a2 c2 L2 W')) := fun V hV => PD.state hV h HX.out.1 st hst
          have H3 : Hid (∀ V, Hid (PD w FF pb w.heap.size mb (n + 1) b last q2 rs2 R a2 c2 L2 V) → Calls Try.prog 18 #[.agg #[.int .i64 b, .int .i64 last, .int .i64 R, .slice a2 ln2 c2], .int .i64 h] V fun e W' => e = .returned (.int .i64 st) ∧ Hid (PD w FF pb w.heap.size mb (n + 1) b last q2 rs2 R a2 c2 L2 W')) := fun V hV => by rw [HLN2.out]; exact PD.rstate hV HI2.out.2 h st hst
          have H4 : Hid (∀ V, Hid (PD w FF pb w.heap.size mb (n + 1) b last q2 rs2 R a2 c2 L2 V) → Calls Try.prog 19 #[.pointer (some ⟨pb, 0, none⟩), .int .i64 h] V fun e W' => e = .returned (.string A) ∧ Hid (PD w FF pb w.heap.size mb (n + 1) b last q2 rs2 R a2 c2 L2 W')) := fun V hV => PD.aim hV h HX.out.1 A hA
          have H5 : Hid (∀ V, Hid (PD w FF pb w.heap.size mb (n + 1) b last q2 rs2 R a2 c2 L2 V) → Calls Try.prog 20 #[.agg #[.int .i64 b, .int .i64 last, .int .i64 R, .slice a2 ln2 c2], .int .i64 h] V fun e W' => e = .returned (.string A) ∧ Hid (PD w FF pb w.heap.size mb (n + 1) b last q2 rs2 R a2 c2 L2 W')) := fun V hV => by rw [HLN2.out]; exact PD.raim hV HI2.out.2 h A hA
          have H6 : Hid (∀ V, Hid (PD w FF pb w.heap.size mb (n + 1) b last q2 rs2 R a2 c2 L2 V) → Calls Try.prog 17 #[.pointer (some ⟨pb, 0, none⟩), .int .i64 last] V fun e W' => e = .returned (.int .i64 st2) ∧ Hid (PD w FF pb w.heap.size mb (n + 1) b last q2 rs2 R a2 c2 L2 W')) := fun V hV => PD.state hV last HI2.out.1 st2 hst2
          have H7 : Hid (∀ V, Hid (PD w FF pb w.heap.size mb (n + 1) b last q2 rs2 R a2 c2 L2 V) → Calls Try.prog 18 #[.agg #[.int .i64 b, .int .i64 last, .int .i64 R, .slice a2 ln2 c2], .int .i64 last] V fun e W' => e = .returned (.int .i64 st2) ∧ Hid (PD w FF pb w.heap.size mb (n + 1) b last q2 rs2 R a2 c2 L2 W')) := fun V hV => by rw [HLN2.out]; exact PD.rstate hV HI2.out.2 last st2 hst2
          have haa : (ByteArray.toList A == ByteArray.toList A) = true := beq_self_eq_true _
          clear hst hA hst2 HLN2 HFF HI2
          have K0 := hidE (P3.out.bel (show Below w5.heap.size w5 w5.drew from (Below.refl _ _).drew))
          have S0 := SK.out _ P3
          have KS := K0
          have SS := SK.out _ K0
          clear K0 P3 HX
          go_wp2_with fail
          go_region_held3 (fun V => Hid (PD w FF pb w.heap.size mb (n + 1) b last q2 rs2 R a2 c2 L2 V) ∧ V.cell? ⟨mb, 0, none⟩ = some (.int .i64 b) ∧ V.cell? ⟨mb, 1, none⟩ = some (.int .i64 last) ∧ V.cell? ⟨mb, 2, none⟩ = some (.int .i64 R) ∧ V.cell? ⟨mb, 3, none⟩ = some (.slice a2 ln2 c2) ∧ V.cell? ⟨wr.heap.size, 1, none⟩ = some (.int .i64 h)) (first | exact SS | exact S0 | go_keep) (first
            | (go_simp; go_at_call 16; refine Calls.mono (H1.out _ KS) ?_; rintro e W1 ⟨rfl, KS⟩; have SS := SK.out _ KS)
            | (go_simp; go_at_call 17; refine Calls.mono (H2.out _ KS) ?_; rintro e W1 ⟨rfl, KS⟩; have SS := SK.out _ KS; clear H2)
            | (go_simp; go_at_call 18; refine Calls.mono (H3.out _ KS) ?_; rintro e W1 ⟨rfl, KS⟩; have SS := SK.out _ KS; clear H3)
            | (go_simp; go_at_call 19; refine Calls.mono (H4.out _ KS) ?_; rintro e W1 ⟨rfl, KS⟩; have SS := SK.out _ KS)
            | (go_simp; go_at_call 20; refine Calls.mono (H5.out _ KS) ?_; rintro e W1 ⟨rfl, KS⟩; have SS := SK.out _ KS)
            | (go_simp; go_at_call 17; refine Calls.mono (H6.out _ KS) ?_; rintro e W1 ⟨rfl, KS⟩; have SS := SK.out _ KS)
            | (go_simp; go_at_call 18; refine Calls.mono (H7.out _ KS) ?_; rintro e W1 ⟨rfl, KS⟩; have SS := SK.out _ KS))
          clear H1 H4 H5 H6 H7 SK SS S0
          go_wp2
          go_roundw
          case rel => exact ⟨i + 1, by omega, by go_num, ⟨n + 1, last, q2, rs2, R, a2, c2, L2, HNI.out, KS.out.less (fun p hp => by cases hp)⟩⟩
          case measure => simp [intOf]; omega
        by_cases e3 : k = 3
        · subst e3
          have HJ := hidE (HP1.out.rest (by have := HX.out.2; omega) h HX.out.1)
          rw [← HLN.out] at HJ
          clear HP1
          go_wp2_with fail
          refine HJ.out.mono ?_
          rintro e V ⟨a2, c2, L2, r, R2, rfl, BV, HT0⟩
          obtain ⟨ln2, hln2⟩ : ∃ ln2, ln2 = L2.length := ⟨_, rfl⟩
          have HT := hidE HT0
          unfold Then17 at HT
          rw [← hln2] at HT ⊢
          have HLN2 := hidE hln2
          have vb := hidE BV
          have md0 := (BV.block mb (by simp; omega)).trans (HQ0.out)
          have vlt : mb < V.heap.size := (Array.getElem?_eq_some_iff.1 md0).1
          have md : V.cell? ⟨wr.heap.size, 1, none⟩ = some (.int .i64 h) := tblk_cell ((BV.block wr.heap.size (by simp)).trans (tblk_new _ _)) rfl
          have md2 : V.cell? ⟨wr.heap.size, 2, none⟩ = some (.string s) := tblk_cell ((BV.block wr.heap.size (by simp)).trans (tblk_new _ _)) rfl
          have wlt : wr.heap.size < V.heap.size := Nat.lt_of_lt_of_le (by simp) BV.size
          have vc0 := PBk.c0 md0
          have vc1 := PBk.c1 md0
          have vc2 := PBk.c2 md0
          have vc3 := PBk.c3 md0
          have n0 : V.frozen? ⟨mb, 0, none⟩ = false := by simp [World.frozen?, md0]
          have n1 : V.frozen? ⟨mb, 1, none⟩ = false := by simp [World.frozen?, md0]
          have n2 : V.frozen? ⟨mb, 2, none⟩ = false := by simp [World.frozen?, md0]
          have n3 : V.frozen? ⟨mb, 3, none⟩ = false := by simp [World.frozen?, md0]
          have ne1 : ¬ wr.heap.size = mb := by omega
          have ne2 : ¬ mb = wr.heap.size := by omega
          clear HJ HT0 BV md0 hln2 mc0 mc1 mc2 mc3 mz0 mz1 mz2 mz3 d0 d1 d2 d3 d4 d5 d6 d7 HQ0
          go_wp2_with fail
          refine (HT.out V [] (Below.refl _ _) (fun p hp => by cases hp)).mono ?_
          rintro e w5 ⟨rfl, q2, rs2, P3⟩
          replace P3 := hidE P3
          clear HT vb md md2 vlt wlt vc0 vc1 vc2 vc3 n0 n1 n2 n3 ne1 ne2
          generalize hFF : [] ++ [(wr.heap.size, Obj.cells #[.int .i64 3, .int .i64 h, .string s, .string u, .slice xa xl xc, .int .i64 nw, .int .i64 fl, .int .i64 co] 34)] = FF at P3
          have HFF := hidE hFF
          clear hFF
          have SK : Hid (∀ V, Hid (PD w FF pb w.heap.size mb (n + 1) b last q2 rs2 R2 a2 c2 L2 V) → Hid (PD w FF pb w.heap.size mb (n + 1) b last q2 rs2 R2 a2 c2 L2 V) ∧ V.cell? ⟨mb, 0, none⟩ = some (.int .i64 b) ∧ V.cell? ⟨mb, 1, none⟩ = some (.int .i64 last) ∧ V.cell? ⟨mb, 2, none⟩ = some (.int .i64 R2) ∧ V.cell? ⟨mb, 3, none⟩ = some (.slice a2 ln2 c2) ∧ V.cell? ⟨wr.heap.size, 1, none⟩ = some (.int .i64 h)) := fun V hV => ⟨hV, hV.out.pm.bk.c0, hV.out.pm.bk.c1, hV.out.pm.bk.c2, by rw [HLN2.out]; exact hV.out.pm.bk.c3, tblk_cell (hV.out.pm.fr (wr.heap.size, Obj.cells #[.int .i64 3, .int .i64 h, .string s, .string u, .slice xa xl xc, .int .i64 nw, .int .i64 fl, .int .i64 co] 34) (by rw [← HFF.out]; simp)) rfl⟩
          obtain ⟨st, hst⟩ : ∃ st, (lookH (q2 h)).2 = st := ⟨_, rfl⟩
          obtain ⟨A, hA⟩ : ∃ A, (lookH (q2 h)).1 = A := ⟨_, rfl⟩
          obtain ⟨st2, hst2⟩ : ∃ st, (lookH (q2 last)).2 = st := ⟨_, rfl⟩
          have HI2 : Hid (InR last ∧ n + 1 ≤ 900) := ⟨by have := P3.out.pm.qi.l0; have := P3.out.pm.qi.ln; have := HX.out.2; unfold InR; omega, by have := HX.out.2; omega⟩
          have H1 : Hid (∀ V, Hid (PD w FF pb w.heap.size mb (n + 1) b last q2 rs2 R2 a2 c2 L2 V) → Calls Try.prog 16 #[.pointer (some ⟨pb, 0, none⟩)] V fun e W' => e = .returned (.int .i64 ln2) ∧ Hid (PD w FF pb w.heap.size mb (n + 1) b last q2 rs2 R2 a2 c2 L2 W')) := fun V hV => by rw [HLN2.out]; exact PD.len hV
          have H2 : Hid (∀ V, Hid (PD w FF pb w.heap.size mb (n + 1) b last q2 rs2 R2 a2 c2 L2 V) → Calls Try.prog 17 #[.pointer (some ⟨pb, 0, none⟩), .int .i64 h] V fun e W' => e = .returned (.int .i64 st) ∧ Hid (PD w FF pb w.heap.size mb (n + 1) b last q2 rs2 R2 a2 c2 L2 W')) := fun V hV => PD.state hV h HX.out.1 st hst
          have H3 : Hid (∀ V, Hid (PD w FF pb w.heap.size mb (n + 1) b last q2 rs2 R2 a2 c2 L2 V) → Calls Try.prog 18 #[.agg #[.int .i64 b, .int .i64 last, .int .i64 R2, .slice a2 ln2 c2], .int .i64 h] V fun e W' => e = .returned (.int .i64 st) ∧ Hid (PD w FF pb w.heap.size mb (n + 1) b last q2 rs2 R2 a2 c2 L2 W')) := fun V hV => by rw [HLN2.out]; exact PD.rstate hV HI2.out.2 h st hst
          have H4 : Hid (∀ V, Hid (PD w FF pb w.heap.size mb (n + 1) b last q2 rs2 R2 a2 c2 L2 V) → Calls Try.prog 19 #[.pointer (some ⟨pb, 0, none⟩), .int .i64 h] V fun e W' => e = .returned (.string A) ∧ Hid (PD w FF pb w.heap.size mb (n + 1) b last q2 rs2 R2 a2 c2 L2 W')) := fun V hV => PD.aim hV h HX.out.1 A hA
          have H5 : Hid (∀ V, Hid (PD w FF pb w.heap.size mb (n + 1) b last q2 rs2 R2 a2 c2 L2 V) → Calls Try.prog 20 #[.agg #[.int .i64 b, .int .i64 last, .int .i64 R2, .slice a2 ln2 c2], .int .i64 h] V fun e W' => e = .returned (.string A) ∧ Hid (PD w FF pb w.heap.size mb (n + 1) b last q2 rs2 R2 a2 c2 L2 W')) := fun V hV => by rw [HLN2.out]; exact PD.raim hV HI2.out.2 h A hA
          have H6 : Hid (∀ V, Hid (PD w FF pb w.heap.size mb (n + 1) b last q2 rs2 R2 a2 c2 L2 V) → Calls Try.prog 17 #[.pointer (some ⟨pb, 0, none⟩), .int .i64 last] V fun e W' => e = .returned (.int .i64 st2) ∧ Hid (PD w FF pb w.heap.size mb (n + 1) b last q2 rs2 R2 a2 c2 L2 W')) := fun V hV => PD.state hV last HI2.out.1 st2 hst2
          have H7 : Hid (∀ V, Hid (PD w FF pb w.heap.size mb (n + 1) b last q2 rs2 R2 a2 c2 L2 V) → Calls Try.prog 18 #[.agg #[.int .i64 b, .int .i64 last, .int .i64 R2, .slice a2 ln2 c2], .int .i64 last] V fun e W' => e = .returned (.int .i64 st2) ∧ Hid (PD w FF pb w.heap.size mb (n + 1) b last q2 rs2 R2 a2 c2 L2 W')) := fun V hV => by rw [HLN2.out]; exact PD.rstate hV HI2.out.2 last st2 hst2
          have haa : (ByteArray.toList A == ByteArray.toList A) = true := beq_self_eq_true _
          clear hst hA hst2 HLN2 HFF HI2
          have K0 := hidE (P3.out.bel (show Below w5.heap.size w5 w5.drew from (Below.refl _ _).drew))
          have S0 := SK.out _ P3
          have KS := K0
          have SS := SK.out _ K0
          clear K0 P3 HX
          go_wp2_with fail
          go_region_held3 (fun V => Hid (PD w FF pb w.heap.size mb (n + 1) b last q2 rs2 R2 a2 c2 L2 V) ∧ V.cell? ⟨mb, 0, none⟩ = some (.int .i64 b) ∧ V.cell? ⟨mb, 1, none⟩ = some (.int .i64 last) ∧ V.cell? ⟨mb, 2, none⟩ = some (.int .i64 R2) ∧ V.cell? ⟨mb, 3, none⟩ = some (.slice a2 ln2 c2) ∧ V.cell? ⟨wr.heap.size, 1, none⟩ = some (.int .i64 h)) (first | exact SS | exact S0 | go_keep) (first
            | (go_simp; go_at_call 16; refine Calls.mono (H1.out _ KS) ?_; rintro e W1 ⟨rfl, KS⟩; have SS := SK.out _ KS)
            | (go_simp; go_at_call 17; refine Calls.mono (H2.out _ KS) ?_; rintro e W1 ⟨rfl, KS⟩; have SS := SK.out _ KS; clear H2)
            | (go_simp; go_at_call 18; refine Calls.mono (H3.out _ KS) ?_; rintro e W1 ⟨rfl, KS⟩; have SS := SK.out _ KS; clear H3)
            | (go_simp; go_at_call 19; refine Calls.mono (H4.out _ KS) ?_; rintro e W1 ⟨rfl, KS⟩; have SS := SK.out _ KS)
            | (go_simp; go_at_call 20; refine Calls.mono (H5.out _ KS) ?_; rintro e W1 ⟨rfl, KS⟩; have SS := SK.out _ KS)
            | (go_simp; go_at_call 17; refine Calls.mono (H6.out _ KS) ?_; rintro e W1 ⟨rfl, KS⟩; have SS := SK.out _ KS)
            | (go_simp; go_at_call 18; refine Calls.mono (H7.out _ KS) ?_; rintro e W1 ⟨rfl, KS⟩; have SS := SK.out _ KS))
          clear H1 H4 H5 H6 H7 SK SS S0
          go_wp2
          go_roundw
          case rel => exact ⟨i + 1, by omega, by go_num, ⟨n + 1, last, q2, rs2, R2, a2, c2, L2, HNI.out, KS.out.less (fun p hp => by cases hp)⟩⟩
          case measure => simp [intOf]; omega
        by_cases e4 : k = 4
        · subst e4
          have HJ := hidE (HP1.out.shut (by have := HX.out.2; omega) h HX.out.1)
          rw [← HLN.out] at HJ
          clear HP1
          go_wp2_with fail
          refine HJ.out.mono ?_
          rintro e V ⟨a2, c2, L2, r, rfl, BV, HT0⟩
          obtain ⟨ln2, hln2⟩ : ∃ ln2, ln2 = L2.length := ⟨_, rfl⟩
          have HT := hidE HT0
          unfold Then17 at HT
          rw [← hln2] at HT ⊢
          have HLN2 := hidE hln2
          have vb := hidE BV
          have md0 := (BV.block mb (by simp; omega)).trans (HQ0.out)
          have vlt : mb < V.heap.size := (Array.getElem?_eq_some_iff.1 md0).1
          have md : V.cell? ⟨wr.heap.size, 1, none⟩ = some (.int .i64 h) := tblk_cell ((BV.block wr.heap.size (by simp)).trans (tblk_new _ _)) rfl
          have md2 : V.cell? ⟨wr.heap.size, 2, none⟩ = some (.string s) := tblk_cell ((BV.block wr.heap.size (by simp)).trans (tblk_new _ _)) rfl
          have wlt : wr.heap.size < V.heap.size := Nat.lt_of_lt_of_le (by simp) BV.size
          have vc0 := PBk.c0 md0
          have vc1 := PBk.c1 md0
          have vc2 := PBk.c2 md0
          have vc3 := PBk.c3 md0
          have n0 : V.frozen? ⟨mb, 0, none⟩ = false := by simp [World.frozen?, md0]
          have n1 : V.frozen? ⟨mb, 1, none⟩ = false := by simp [World.frozen?, md0]
          have n2 : V.frozen? ⟨mb, 2, none⟩ = false := by simp [World.frozen?, md0]
          have n3 : V.frozen? ⟨mb, 3, none⟩ = false := by simp [World.frozen?, md0]
          have ne1 : ¬ wr.heap.size = mb := by omega
          have ne2 : ¬ mb = wr.heap.size := by omega
          clear HJ HT0 BV md0 hln2 mc0 mc1 mc2 mc3 mz0 mz1 mz2 mz3 d0 d1 d2 d3 d4 d5 d6 d7 HQ0
          go_wp2_with fail
          refine (HT.out V [] (Below.refl _ _) (fun p hp => by cases hp)).mono ?_
          rintro e w5 ⟨rfl, q2, rs2, P3⟩
          replace P3 := hidE P3
          clear HT vb md md2 vlt wlt vc0 vc1 vc2 vc3 n0 n1 n2 n3 ne1 ne2
          generalize hFF : [] ++ [(wr.heap.size, Obj.cells #[.int .i64 4, .int .i64 h, .string s, .string u, .slice xa xl xc, .int .i64 nw, .int .i64 fl, .int .i64 co] 34)] = FF at P3
          have HFF := hidE hFF
          clear hFF
          have SK : Hid (∀ V, Hid (PD w FF pb w.heap.size mb (n + 1) b last q2 rs2 R a2 c2 L2 V) → Hid (PD w FF pb w.heap.size mb (n + 1) b last q2 rs2 R a2 c2 L2 V) ∧ V.cell? ⟨mb, 0, none⟩ = some (.int .i64 b) ∧ V.cell? ⟨mb, 1, none⟩ = some (.int .i64 last) ∧ V.cell? ⟨mb, 2, none⟩ = some (.int .i64 R) ∧ V.cell? ⟨mb, 3, none⟩ = some (.slice a2 ln2 c2) ∧ V.cell? ⟨wr.heap.size, 1, none⟩ = some (.int .i64 h)) := fun V hV => ⟨hV, hV.out.pm.bk.c0, hV.out.pm.bk.c1, hV.out.pm.bk.c2, by rw [HLN2.out]; exact hV.out.pm.bk.c3, tblk_cell (hV.out.pm.fr (wr.heap.size, Obj.cells #[.int .i64 4, .int .i64 h, .string s, .string u, .slice xa xl xc, .int .i64 nw, .int .i64 fl, .int .i64 co] 34) (by rw [← HFF.out]; simp)) rfl⟩
          obtain ⟨st, hst⟩ : ∃ st, (lookH (q2 h)).2 = st := ⟨_, rfl⟩
          obtain ⟨A, hA⟩ : ∃ A, (lookH (q2 h)).1 = A := ⟨_, rfl⟩
          obtain ⟨st2, hst2⟩ : ∃ st, (lookH (q2 last)).2 = st := ⟨_, rfl⟩
          have HI2 : Hid (InR last ∧ n + 1 ≤ 900) := ⟨by have := P3.out.pm.qi.l0; have := P3.out.pm.qi.ln; have := HX.out.2; unfold InR; omega, by have := HX.out.2; omega⟩
          have H1 : Hid (∀ V, Hid (PD w FF pb w.heap.size mb (n + 1) b last q2 rs2 R a2 c2 L2 V) → Calls Try.prog 16 #[.pointer (some ⟨pb, 0, none⟩)] V fun e W' => e = .returned (.int .i64 ln2) ∧ Hid (PD w FF pb w.heap.size mb (n + 1) b last q2 rs2 R a2 c2 L2 W')) := fun V hV => by rw [HLN2.out]; exact PD.len hV
          have H2 : Hid (∀ V, Hid (PD w FF pb w.heap.size mb (n + 1) b last q2 rs2 R a2 c2 L2 V) → Calls Try.prog 17 #[.pointer (some ⟨pb, 0, none⟩), .int .i64 h] V fun e W' => e = .returned (.int .i64 st) ∧ Hid (PD w FF pb w.heap.size mb (n + 1) b last q2 rs2 R a2 c2 L2 W')) := fun V hV => PD.state hV h HX.out.1 st hst
          have H3 : Hid (∀ V, Hid (PD w FF pb w.heap.size mb (n + 1) b last q2 rs2 R a2 c2 L2 V) → Calls Try.prog 18 #[.agg #[.int .i64 b, .int .i64 last, .int .i64 R, .slice a2 ln2 c2], .int .i64 h] V fun e W' => e = .returned (.int .i64 st) ∧ Hid (PD w FF pb w.heap.size mb (n + 1) b last q2 rs2 R a2 c2 L2 W')) := fun V hV => by rw [HLN2.out]; exact PD.rstate hV HI2.out.2 h st hst
          have H4 : Hid (∀ V, Hid (PD w FF pb w.heap.size mb (n + 1) b last q2 rs2 R a2 c2 L2 V) → Calls Try.prog 19 #[.pointer (some ⟨pb, 0, none⟩), .int .i64 h] V fun e W' => e = .returned (.string A) ∧ Hid (PD w FF pb w.heap.size mb (n + 1) b last q2 rs2 R a2 c2 L2 W')) := fun V hV => PD.aim hV h HX.out.1 A hA
          have H5 : Hid (∀ V, Hid (PD w FF pb w.heap.size mb (n + 1) b last q2 rs2 R a2 c2 L2 V) → Calls Try.prog 20 #[.agg #[.int .i64 b, .int .i64 last, .int .i64 R, .slice a2 ln2 c2], .int .i64 h] V fun e W' => e = .returned (.string A) ∧ Hid (PD w FF pb w.heap.size mb (n + 1) b last q2 rs2 R a2 c2 L2 W')) := fun V hV => by rw [HLN2.out]; exact PD.raim hV HI2.out.2 h A hA
          have H6 : Hid (∀ V, Hid (PD w FF pb w.heap.size mb (n + 1) b last q2 rs2 R a2 c2 L2 V) → Calls Try.prog 17 #[.pointer (some ⟨pb, 0, none⟩), .int .i64 last] V fun e W' => e = .returned (.int .i64 st2) ∧ Hid (PD w FF pb w.heap.size mb (n + 1) b last q2 rs2 R a2 c2 L2 W')) := fun V hV => PD.state hV last HI2.out.1 st2 hst2
          have H7 : Hid (∀ V, Hid (PD w FF pb w.heap.size mb (n + 1) b last q2 rs2 R a2 c2 L2 V) → Calls Try.prog 18 #[.agg #[.int .i64 b, .int .i64 last, .int .i64 R, .slice a2 ln2 c2], .int .i64 last] V fun e W' => e = .returned (.int .i64 st2) ∧ Hid (PD w FF pb w.heap.size mb (n + 1) b last q2 rs2 R a2 c2 L2 W')) := fun V hV => by rw [HLN2.out]; exact PD.rstate hV HI2.out.2 last st2 hst2
          have haa : (ByteArray.toList A == ByteArray.toList A) = true := beq_self_eq_true _
          clear hst hA hst2 HLN2 HFF HI2
          have K0 := hidE (P3.out.bel (show Below w5.heap.size w5 w5.drew from (Below.refl _ _).drew))
          have S0 := SK.out _ P3
          have KS := K0
          have SS := SK.out _ K0
          clear K0 P3 HX
          go_wp2_with fail
          go_region_held3 (fun V => Hid (PD w FF pb w.heap.size mb (n + 1) b last q2 rs2 R a2 c2 L2 V) ∧ V.cell? ⟨mb, 0, none⟩ = some (.int .i64 b) ∧ V.cell? ⟨mb, 1, none⟩ = some (.int .i64 last) ∧ V.cell? ⟨mb, 2, none⟩ = some (.int .i64 R) ∧ V.cell? ⟨mb, 3, none⟩ = some (.slice a2 ln2 c2) ∧ V.cell? ⟨wr.heap.size, 1, none⟩ = some (.int .i64 h)) (first | exact SS | exact S0 | go_keep) (first
            | (go_simp; go_at_call 16; refine Calls.mono (H1.out _ KS) ?_; rintro e W1 ⟨rfl, KS⟩; have SS := SK.out _ KS)
            | (go_simp; go_at_call 17; refine Calls.mono (H2.out _ KS) ?_; rintro e W1 ⟨rfl, KS⟩; have SS := SK.out _ KS; clear H2)
            | (go_simp; go_at_call 18; refine Calls.mono (H3.out _ KS) ?_; rintro e W1 ⟨rfl, KS⟩; have SS := SK.out _ KS; clear H3)
            | (go_simp; go_at_call 19; refine Calls.mono (H4.out _ KS) ?_; rintro e W1 ⟨rfl, KS⟩; have SS := SK.out _ KS)
            | (go_simp; go_at_call 20; refine Calls.mono (H5.out _ KS) ?_; rintro e W1 ⟨rfl, KS⟩; have SS := SK.out _ KS)
            | (go_simp; go_at_call 17; refine Calls.mono (H6.out _ KS) ?_; rintro e W1 ⟨rfl, KS⟩; have SS := SK.out _ KS)
            | (go_simp; go_at_call 18; refine Calls.mono (H7.out _ KS) ?_; rintro e W1 ⟨rfl, KS⟩; have SS := SK.out _ KS))
          clear H1 H4 H5 H6 H7 SK SS S0
          go_wp2
          go_roundw
          case rel => exact ⟨i + 1, by omega, by go_num, ⟨n + 1, last, q2, rs2, R, a2, c2, L2, HNI.out, KS.out.less (fun p hp => by cases hp)⟩⟩
          case measure => simp [intOf]; omega
        have k1 : (k == 1) = false := by simp [e1]
        have k2 : (k == 2) = false := by simp [e2]
        have k3 : (k == 3) = false := by simp [e3]
        have k4 : (k == 4) = false := by simp [e4]
        clear e1 e2 e3 e4 HQ0
        have P3 := hidE (HP1.out.mono (Nat.le_succ n))
        clear HP1
        generalize hFF : [(wr.heap.size, Obj.cells #[.int .i64 k, .int .i64 h, .string s, .string u, .slice xa xl xc, .int .i64 nw, .int .i64 fl, .int .i64 co] 34)] = FF at P3
        have HFF := hidE hFF
        clear hFF
        have SK : Hid (∀ V, Hid (PD w FF pb w.heap.size mb (n + 1) b last q rs R a c L V) → Hid (PD w FF pb w.heap.size mb (n + 1) b last q rs R a c L V) ∧ V.cell? ⟨mb, 0, none⟩ = some (.int .i64 b) ∧ V.cell? ⟨mb, 1, none⟩ = some (.int .i64 last) ∧ V.cell? ⟨mb, 2, none⟩ = some (.int .i64 R) ∧ V.cell? ⟨mb, 3, none⟩ = some (.slice a ln c) ∧ V.cell? ⟨wr.heap.size, 1, none⟩ = some (.int .i64 h)) := fun V hV => ⟨hV, hV.out.pm.bk.c0, hV.out.pm.bk.c1, hV.out.pm.bk.c2, by rw [HLN.out]; exact hV.out.pm.bk.c3, tblk_cell (hV.out.pm.fr (wr.heap.size, Obj.cells #[.int .i64 k, .int .i64 h, .string s, .string u, .slice xa xl xc, .int .i64 nw, .int .i64 fl, .int .i64 co] 34) (by rw [← HFF.out]; simp)) rfl⟩
        obtain ⟨st, hst⟩ : ∃ st, (lookH (q h)).2 = st := ⟨_, rfl⟩
        obtain ⟨A, hA⟩ : ∃ A, (lookH (q h)).1 = A := ⟨_, rfl⟩
        obtain ⟨st2, hst2⟩ : ∃ st, (lookH (q last)).2 = st := ⟨_, rfl⟩
        have HI2 : Hid (InR last ∧ n + 1 ≤ 900) := ⟨by have := P3.out.pm.qi.l0; have := P3.out.pm.qi.ln; have := HX.out.2; unfold InR; omega, by have := HX.out.2; omega⟩
        have H1 : Hid (∀ V, Hid (PD w FF pb w.heap.size mb (n + 1) b last q rs R a c L V) → Calls Try.prog 16 #[.pointer (some ⟨pb, 0, none⟩)] V fun e W' => e = .returned (.int .i64 ln) ∧ Hid (PD w FF pb w.heap.size mb (n + 1) b last q rs R a c L W')) := fun V hV => by rw [HLN.out]; exact PD.len hV
        have H2 : Hid (∀ V, Hid (PD w FF pb w.heap.size mb (n + 1) b last q rs R a c L V) → Calls Try.prog 17 #[.pointer (some ⟨pb, 0, none⟩), .int .i64 h] V fun e W' => e = .returned (.int .i64 st) ∧ Hid (PD w FF pb w.heap.size mb (n + 1) b last q rs R a c L W')) := fun V hV => PD.state hV h HX.out.1 st hst
        have H3 : Hid (∀ V, Hid (PD w FF pb w.heap.size mb (n + 1) b last q rs R a c L V) → Calls Try.prog 18 #[.agg #[.int .i64 b, .int .i64 last, .int .i64 R, .slice a ln c], .int .i64 h] V fun e W' => e = .returned (.int .i64 st) ∧ Hid (PD w FF pb w.heap.size mb (n + 1) b last q rs R a c L W')) := fun V hV => by rw [HLN.out]; exact PD.rstate hV HI2.out.2 h st hst
        have H4 : Hid (∀ V, Hid (PD w FF pb w.heap.size mb (n + 1) b last q rs R a c L V) → Calls Try.prog 19 #[.pointer (some ⟨pb, 0, none⟩), .int .i64 h] V fun e W' => e = .returned (.string A) ∧ Hid (PD w FF pb w.heap.size mb (n + 1) b last q rs R a c L W')) := fun V hV => PD.aim hV h HX.out.1 A hA
        have H5 : Hid (∀ V, Hid (PD w FF pb w.heap.size mb (n + 1) b last q rs R a c L V) → Calls Try.prog 20 #[.agg #[.int .i64 b, .int .i64 last, .int .i64 R, .slice a ln c], .int .i64 h] V fun e W' => e = .returned (.string A) ∧ Hid (PD w FF pb w.heap.size mb (n + 1) b last q rs R a c L W')) := fun V hV => by rw [HLN.out]; exact PD.raim hV HI2.out.2 h A hA
        have H6 : Hid (∀ V, Hid (PD w FF pb w.heap.size mb (n + 1) b last q rs R a c L V) → Calls Try.prog 17 #[.pointer (some ⟨pb, 0, none⟩), .int .i64 last] V fun e W' => e = .returned (.int .i64 st2) ∧ Hid (PD w FF pb w.heap.size mb (n + 1) b last q rs R a c L W')) := fun V hV => PD.state hV last HI2.out.1 st2 hst2
        have H7 : Hid (∀ V, Hid (PD w FF pb w.heap.size mb (n + 1) b last q rs R a c L V) → Calls Try.prog 18 #[.agg #[.int .i64 b, .int .i64 last, .int .i64 R, .slice a ln c], .int .i64 last] V fun e W' => e = .returned (.int .i64 st2) ∧ Hid (PD w FF pb w.heap.size mb (n + 1) b last q rs R a c L W')) := fun V hV => by rw [HLN.out]; exact PD.rstate hV HI2.out.2 last st2 hst2
        have haa : (ByteArray.toList A == ByteArray.toList A) = true := beq_self_eq_true _
        clear hst hA hst2 HLN HFF HI2
        have K0 := hidE (P3.out.bel (show Below (wr.alloc (Obj.cells #[.int .i64 k, .int .i64 h, .string s, .string u, .slice xa xl xc, .int .i64 nw, .int .i64 fl, .int .i64 co] 34)).heap.size (wr.alloc (Obj.cells #[.int .i64 k, .int .i64 h, .string s, .string u, .slice xa xl xc, .int .i64 nw, .int .i64 fl, .int .i64 co] 34)) (wr.alloc (Obj.cells #[.int .i64 k, .int .i64 h, .string s, .string u, .slice xa xl xc, .int .i64 nw, .int .i64 fl, .int .i64 co] 34)).drew from (Below.refl _ _).drew))
        have S0 := SK.out _ P3
        have KS := K0
        have SS := SK.out _ K0
        clear K0 P3 HX
        go_wp2_with fail
        go_region_held3 (fun V => Hid (PD w FF pb w.heap.size mb (n + 1) b last q rs R a c L V) ∧ V.cell? ⟨mb, 0, none⟩ = some (.int .i64 b) ∧ V.cell? ⟨mb, 1, none⟩ = some (.int .i64 last) ∧ V.cell? ⟨mb, 2, none⟩ = some (.int .i64 R) ∧ V.cell? ⟨mb, 3, none⟩ = some (.slice a ln c) ∧ V.cell? ⟨wr.heap.size, 1, none⟩ = some (.int .i64 h)) (first | exact SS | exact S0 | go_keep) (first
          | (go_simp; go_at_call 16; refine Calls.mono (H1.out _ KS) ?_; rintro e W1 ⟨rfl, KS⟩; have SS := SK.out _ KS)
          | (go_simp; go_at_call 17; refine Calls.mono (H2.out _ KS) ?_; rintro e W1 ⟨rfl, KS⟩; have SS := SK.out _ KS; clear H2)
          | (go_simp; go_at_call 18; refine Calls.mono (H3.out _ KS) ?_; rintro e W1 ⟨rfl, KS⟩; have SS := SK.out _ KS; clear H3)
          | (go_simp; go_at_call 19; refine Calls.mono (H4.out _ KS) ?_; rintro e W1 ⟨rfl, KS⟩; have SS := SK.out _ KS)
          | (go_simp; go_at_call 20; refine Calls.mono (H5.out _ KS) ?_; rintro e W1 ⟨rfl, KS⟩; have SS := SK.out _ KS)
          | (go_simp; go_at_call 17; refine Calls.mono (H6.out _ KS) ?_; rintro e W1 ⟨rfl, KS⟩; have SS := SK.out _ KS)
          | (go_simp; go_at_call 18; refine Calls.mono (H7.out _ KS) ?_; rintro e W1 ⟨rfl, KS⟩; have SS := SK.out _ KS))
        clear H1 H4 H5 H6 H7 SK SS S0
        go_wp2
        go_roundw
        case rel => exact ⟨i + 1, by omega, by go_num, ⟨n + 1, last, q, rs, R, a, c, L, HNI.out, KS.out.less (fun p hp => by cases hp)⟩⟩
        case measure => simp [intOf]; omega
      · obtain rfl : i = len := by omega
        obtain ⟨n, last, q, rs, R, a, c, L, hni, HPD⟩ := HP.out
        have HZ := hidE HPD.pm.be
        clear HP HPD hO hA
        go_wp2
        go_ret
        exact ⟨rfl, HZ.out⟩
end Go.Proofs.Ytlaigjapnmgjeaa
