/- BucketLooks' walk. -/
import Derived.Test.YtpahicfgenffgaaBkD
namespace Go.Proofs.Ytpahicfgenffgaa
open Go.RowKit
set_option linter.unusedVariables false

set_option maxHeartbeats 1600000 in
theorem looks_walk (a0 a1 a2 : Int) (ad : Option Addr) (len cap : Nat) (w : World) (hN : Nums w ad len) :
    Calls Try.prog 6 #[.int .i64 a0, .int .i64 a1, .int .i64 a2, .slice ad len cap] w fun e w' => e = .returned (.bool true) ∧ Below w.heap.size w w' := by
  obtain ⟨m, hm⟩ : ∃ m, max a2 0 = m := ⟨_, rfl⟩
  generalize hr0 : bnd a0 = r
  generalize hu0 : bnd a1 = u
  have hbr := bnd_bd a0
  have hbu := bnd_bd a1
  rw [hr0] at hbr
  rw [hu0] at hbu
  obtain ⟨n, hn⟩ : ∃ n, min m u = n := ⟨_, rfl⟩
  have X4 := max_run a2 0 m hm
  have X5 := min_run m u n hn
  have b3 : 0 ≤ u := hbu.1
  have b4 : u ≤ 1048576 := hbu.2
  have b5 : 0 ≤ n := by omega
  have b6 : n ≤ u := by omega
  have HNEW : Hid (∀ W, Calls Try.prog 7 #[.int .i64 a0, .int .i64 a1] W fun e w' => ∃ b, e = .returned (.pointer (some ⟨b, 0, none⟩)) ∧ W.heap.size = b ∧ IsK w' b r u u 0 ∧ KI r u u 0 ∧ Below W.heap.size W w') := by
    intro W; have := new_k a0 a1 W; rw [hr0, hu0] at this; exact this
  obtain ⟨hl, hN⟩ := hN
  unfold maxLen at hl
  clear hm hn hr0 hu0 hbr hbu
  have go : ∀ (hd : decide ((40 : Int) < (len : Int)) = decide ((40 : Int) < (len : Int))), True := fun _ => trivial
  clear go
  go_enter Try.func6, Try.ntmps6
  go_wp2_with fail
  refine (HNEW.out _).mono ?_
  rintro e w1 ⟨ba, rfl, hba, A1, I1, B1⟩
  go_wp2_with fail
  refine (HNEW.out _).mono ?_
  rintro e w2 ⟨bb, rfl, hbb, K2, J2, B2⟩
  have A2 := Below.isK B2 A1.lt A1
  have D2 := B1.trans (B2.mono B1.size)
  have hne : ba ≠ bb := by have := A1.lt; omega
  go_wp2_with fail
  refine (alive_any _).mono ?_
  rintro e w3 ⟨rfl, B3⟩
  have A3 := Below.isK B3 A2.lt A2
  have K3 := Below.isK B3 K2.lt K2
  have D3 := D2.trans (B3.mono D2.size)
  have hwa : w.heap.size ≤ ba := by omega
  have hwb : w.heap.size ≤ bb := by have := B1.size; omega
  clear hba hbb A1 A2 K2 B1 B2 B3 D2 HNEW
  rcases Nat.lt_or_ge 40 len with hlen | hlen
  · have h40 : (40 : Int) < (len : Int) := by omega
    go_wp2
    go_ret
    exact ⟨rfl, D3⟩
  · have h40 : decide ((40 : Int) < (len : Int)) = false := decide_eq_false (by omega)
    have P1 : Hid (now2 r u u 0 0 = u) := fl_same I1
    have P2 : Hid (tkB (now2 r u u 0 0) n = true) := by rw [P1.out]; exact (tk_yes b5 b6).1
    have P3 : Hid (tkK (now2 r u u 0 0) n = u - n) := by rw [P1.out]; exact (tk_yes b5 b6).2
    go_wp2_with fail
    refine (tok_at ba r u u 0 0 u 0 _ A3 I1 P1.out rfl).mono ?_
    rintro e w4 ⟨rfl, A4, I4, B4⟩
    have K4 := B4.isK hne.symm K3
    go_wp2_with fail
    refine (take_at ba r u u 0 0 n (u - n) 0 true _ A4 I4 P2.out P3.out rfl).mono ?_
    rintro e w5 ⟨rfl, A5, I5, B5⟩
    have K5 := B5.isK hne.symm K4
    have P4 : Hid (now2 r u (u - n) 0 0 = u - n) := fl_same I5
    go_wp2_with fail
    refine (tok_at bb r u u 0 0 u 0 _ K5 J2 P1.out rfl).mono ?_
    rintro e w6 ⟨rfl, K6, J6, B6⟩
    have A6 := B6.isK hne A5
    go_wp2_with fail
    refine (tok_at ba r u (u - n) 0 0 (u - n) 0 _ A6 I5 P4.out rfl).mono ?_
    rintro e w7 ⟨rfl, A7, I7, B7⟩
    have K7 := B7.isK hne.symm K6
    go_wp2_with fail
    refine (take_at bb r u u 0 0 n (u - n) 0 true _ K7 J6 P2.out P3.out rfl).mono ?_
    rintro e w8 ⟨rfl, K8, J8, B8⟩
    have A8 := B8.isK hne A7
    have D8 : Below w.heap.size w w8 := ((((D3.trans (B4.below hwa)).trans (B5.below hwa)).trans (B6.below hwb)).trans (B7.below hwa)).trans (B8.below hwb)
    clear A3 A4 A5 A6 A7 K3 K4 K5 K6 K7 B4 B5 B6 B7 B8 D3 I1 I4 I5 I7 J2 J6 P1 P2 P3 P4
    have KI0 : Hid (KI r u (u - n) 0) := J8
    have F0 : flK r u (u - n) 0 0 = u - n := fl_same J8
    clear J8
    go_wp2_with fail
    go_loopw [11, 59] (fun vn vi wr => ∃ i t : Nat, i ≤ len ∧ t ≤ i * 1023 ∧ vi = .int .i64 i ∧ vn = .int .i64 t ∧ Hid (IsK wr ba r u (flK r u (u - n) 0 t) t ∧ IsK wr bb r u (u - n) 0 ∧ Below w.heap.size w wr)) (fun vn vi _ => len - (intOf vi).toNat)
    case atStart => exact ⟨0, 0, Nat.zero_le _, Nat.zero_le _, rfl, rfl, (by rw [show ((0 : Nat) : Int) = 0 from rfl, F0]; exact A8), K8, D8⟩
    case round =>
      obtain ⟨i, t, hi, ht, rfl, rfl, hS⟩ := hrel
      clear A8 K8 D8 F0
      have IA : Hid (KI r u (flK r u (u - n) 0 t) t) := KI0.out.fill (by omega) (by omega)
      by_cases hlt : i < len
      · obtain ⟨b1, o1, rfl, hb1, hc1⟩ := hN (by omega)
        obtain ⟨z, hz⟩ := hc1 i hlt
        have hcell := (hS.out.2.2.cell (p := ⟨b1, o1 + i, none⟩) hb1).trans hz
        clear hz hc1
        obtain ⟨d, hd, hbt0⟩ := and_mask z 1023 (by decide)
        have hbt : bits BinOp.and IntKind.i64 z 1023 = (d : Int) := hbt0
        clear hbt0
        have T1 : Hid (tmx ((t : Int) + d) t = (t : Int) + d) := tmx_up (by omega) (by omega)
        have T2 : Hid (now2 r u (flK r u (u - n) 0 t) t ((t : Int) + d) = flK r u (u - n) 0 ((t : Int) + d)) := by unfold now2; rw [T1.out]; exact fl_two KI0.out (by omega) (by omega)
        go_wp2_with fail
        refine (tok_at ba r u _ t ((t : Int) + d) _ _ _ hS.out.1 IA.out T2.out T1.out).mono ?_
        rintro e w9 ⟨rfl, A9, I9, B9⟩
        have K9 := B9.isK hne.symm hS.out.2.1
        have D9 := hS.out.2.2.trans (B9.below hwa)
        go_wp2
        go_roundw
        case rel => exact ⟨i + 1, t + d, by omega, by omega, by go_num, by go_num, A9, K9, D9⟩
        case measure => simp [intOf]; omega
      · have hie : i = len := by omega
        subst hie
        generalize hkt : flK r u (u - n) 0 t = kt at *
        have T1 : Hid (tmx (t : Int) t = t) := tmx_up (by omega) (by omega)
        have T2 : Hid (now2 r u kt t t = kt) := by unfold now2; rw [T1.out]; exact fl_same IA.out
        have T3 : Hid (tmx (t : Int) 0 = t) := tmx_up (by omega) (by omega)
        have T4 : Hid (now2 r u (u - n) 0 t = kt) := by unfold now2; rw [T3.out]; exact hkt
        obtain ⟨k5, hk5⟩ : ∃ k5, now2 r u kt t ((t : Int) + 5) = k5 := ⟨_, rfl⟩
        have T5 : Hid (now2 r u kt t ((t : Int) + 5) = k5) := hk5
        have hlt2 : ¬ (i : Int) < (i : Int) := by omega
        clear hk5 hkt hlt
        go_wp2_with fail
        refine (tok_at ba r u kt t t kt t _ hS.out.1 IA.out T2.out T1.out).mono ?_
        rintro e w9 ⟨rfl, A9, I9, B9⟩
        have K9 := B9.isK hne.symm hS.out.2.1
        have D9 := hS.out.2.2.trans (B9.below hwa)
        go_wp2_with fail
        refine (tok_at bb r u (u - n) 0 t kt t _ K9 KI0.out T4.out T3.out).mono ?_
        rintro e w10 ⟨rfl, K10, I10, B10⟩
        have A10 := B10.isK hne A9
        have D10 := D9.trans (B10.below hwb)
        go_wp2_with fail
        refine (tok_at ba r u kt t ((t : Int) + 5) k5 _ _ A10 I9 T5.out rfl).mono ?_
        rintro e w11 ⟨rfl, A11, I11, B11⟩
        have K11 := B11.isK hne.symm K10
        have D11 := D10.trans (B11.below hwa)
        go_wp2_with fail
        refine (tok_at bb r u kt t ((t : Int) + 5) k5 _ _ K11 I10 T5.out rfl).mono ?_
        rintro e w12 ⟨rfl, A12, I12, B12⟩
        have D12 := D11.trans (B12.below hwb)
        go_wp2
        go_ret
        exact ⟨rfl, D12⟩
end Go.Proofs.Ytpahicfgenffgaa
