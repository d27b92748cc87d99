/- BucketFull's walk. -/
import Derived.Test.YtpahicfgenffgaaBkB
namespace Go.Proofs.Ytpahicfgenffgaa
open Go.RowKit
set_option linter.unusedVariables false

/-- The numbers of the law's own min and max. -/
theorem max_run (x y z : Int) (h : max x y = z) (W : World) (ts : Array TypeId) (t : TypeId) : (Builtin.max_ ts t #[.int .i64 x, .int .i64 y]).run Try.prog W = .ok (.int .i64 z) W := by
  rw [run_max_int2, ← h]
  congr 2
  split <;> omega
theorem min_run (x y z : Int) (h : min x y = z) (W : World) (ts : Array TypeId) (t : TypeId) : (Builtin.min_ ts t #[.int .i64 x, .int .i64 y]).run Try.prog W = .ok (.int .i64 z) W := by
  rw [run_min_int2, ← h]
  congr 2
  split <;> omega

theorem fl_same {r u k a : Int} (h : KI r u k a) : flK r u k a a = k := by
  unfold flK; rw [Int.sub_self, Int.mul_zero, Int.add_zero, if_pos h.k1]
set_option maxHeartbeats 1600000 in
theorem full_walk (a0 a1 a2 a3 : Int) (w : World) :
    Calls Try.prog 5 #[.int .i64 a0, .int .i64 a1, .int .i64 a2, .int .i64 a3] w fun e w' => e = .returned (.bool true) ∧ Below w.heap.size w w' := by
  obtain ⟨m0, hm0⟩ : ∃ m0, max a0 0 = m0 := ⟨_, rfl⟩
  obtain ⟨r, hr⟩ : ∃ r, min m0 1048576 = r := ⟨_, rfl⟩
  have X0 := max_run a0 0 m0 hm0
  have X1 := min_run m0 1048576 r hr
  have hr0 : bnd a0 = r := by unfold bnd; split <;> (try split) <;> omega
  obtain ⟨m1, hm1⟩ : ∃ m1, max a1 0 = m1 := ⟨_, rfl⟩
  obtain ⟨u, hu⟩ : ∃ u, min m1 1048576 = u := ⟨_, rfl⟩
  have X2 := max_run a1 0 m1 hm1
  have X3 := min_run m1 1048576 u hu
  have hu0 : bnd a1 = u := by unfold bnd; split <;> (try split) <;> omega
  obtain ⟨m2, hm2⟩ : ∃ m2, max a2 0 = m2 := ⟨_, rfl⟩
  obtain ⟨n, hn⟩ : ∃ n, min m2 u = n := ⟨_, rfl⟩
  have X4 := max_run a2 0 m2 hm2
  have X5 := min_run m2 u n hn
  obtain ⟨m3, hm3⟩ : ∃ m3, max a3 0 = m3 := ⟨_, rfl⟩
  obtain ⟨t, ht⟩ : ∃ t, min m3 1073741824 = t := ⟨_, rfl⟩
  have X6 := max_run a3 0 m3 hm3
  have X7 := min_run m3 1073741824 t ht
  have b1 : 0 ≤ r := by omega
  have b2 : r ≤ 1048576 := by omega
  have b3 : 0 ≤ u := by omega
  have b4 : u ≤ 1048576 := by omega
  have b5 : 0 ≤ n := by omega
  have b6 : n ≤ u := by omega
  have b7 : 0 ≤ t := by omega
  have b8 : t ≤ 1073741824 := by omega
  have HNEW : Hid (∀ W, Calls Try.prog 7 #[.int .i64 a0, .int .i64 a1] W fun e w' => ∃ b, e = .returned (.pointer (some ⟨b, 0, none⟩)) ∧ W.heap.size = b ∧ IsK w' b r u u 0 ∧ KI r u u 0 ∧ Below W.heap.size W w') := by
    intro W; have := new_k a0 a1 W; rw [hr0, hu0] at this; exact this
  clear hm0 hr hm1 hu hm2 hn hm3 ht hr0 hu0
  go_enter Try.func5, Try.ntmps5
  go_wp2_with fail
  refine (HNEW.out _).mono ?_
  rintro e w1 ⟨b, rfl, hb, K1, I1, B1⟩
  go_wp2_with fail
  refine (alive_any _).mono ?_
  rintro e w2 ⟨rfl, B2⟩
  go_wp2_with fail
  have K2 := Below.isK B2 K1.lt K1
  have D2 := B1.trans (B2.mono B1.size)
  have i0 : tmx 0 0 = 0 := rfl
  have i5 : tmx (-5) 0 = 0 := rfl
  have p1 : now2 r u u 0 0 = u := by unfold now2; rw [i0]; exact fl_same I1
  have p1b : tkB (now2 r u u 0 0) n = true := by rw [p1]; exact (tk_yes b5 b6).1
  have p1c : tkK (now2 r u u 0 0) n = u - n := by rw [p1]; exact (tk_yes b5 b6).2
  have P1 : Hid (now2 r u u 0 0 = u) := p1
  have P2 : Hid (tkB (now2 r u u 0 0) n = true) := p1b
  have P3 : Hid (tkK (now2 r u u 0 0) n = u - n) := p1c
  clear p1 p1b p1c i0 i5
  refine (tok_at b r u u 0 0 u 0 _ K2 I1 P1.out rfl).mono ?_
  rintro e w3 ⟨rfl, K3, I3, B3⟩
  go_wp2_with fail
  refine (take_at b r u u 0 0 n (u - n) 0 true _ K3 I3 P2.out P3.out rfl).mono ?_
  rintro e w4 ⟨rfl, K4, I4, B4⟩
  have P4 : Hid (now2 r u (u - n) 0 0 = u - n) := by unfold now2; exact fl_same I4
  have P5 : Hid (now2 r u (u - n) 0 (-5) = u - n) := by unfold now2; exact fl_same I4
  have P6 : Hid (tkB (now2 r u (u - n) 0 0) (u - n + 1) = false ∧ tkK (now2 r u (u - n) 0 0) (u - n + 1) = u - n) := by rw [P4.out]; exact tk_no (Or.inr (by omega))
  have P7 : Hid (tkB (now2 r u (u - n) 0 (-5)) (-1) = false ∧ tkK (now2 r u (u - n) 0 (-5)) (-1) = u - n) := by rw [P5.out]; exact tk_no (Or.inl (by omega))
  go_wp2_with fail
  refine (take_at b r u (u - n) 0 0 (u - n + 1) (u - n) 0 false _ K4 I4 P6.out.1 P6.out.2 rfl).mono ?_
  rintro e w5 ⟨rfl, K5, I5, B5⟩
  go_wp2_with fail
  refine (take_at b r u (u - n) 0 (-5) (-1) (u - n) 0 false _ K5 I5 P7.out.1 P7.out.2 rfl).mono ?_
  rintro e w6 ⟨rfl, K6, I6, B6⟩
  go_wp2_with fail
  refine (tok_at b r u (u - n) 0 (-5) (u - n) 0 _ K6 I6 P5.out rfl).mono ?_
  rintro e w7 ⟨rfl, K7, I7, B7⟩
  have D7 : Below w.heap.size w w7 := D2.trans ((B3.trans (B4.trans (B5.trans (B6.trans B7)))).below (Nat.le_of_eq hb))
  have DB : Hid (Below w.heap.size w w7) := D7
  clear K1 K2 K3 K4 K5 K6 I3 I4 I5 I6 P1 P2 P3 P4 P5 P6 P7 B1 B2 B3 B4 B5 B6 B7 D2 D7 I1
  obtain ⟨c0, c1⟩ := mul_bd b1 b2 b7 (by omega : t ≤ 1099511627776)
  obtain ⟨k, hk⟩ : ∃ k, flK r u (u - n) 0 t = k := ⟨_, rfl⟩
  have hkk : k = if u - n + r * t ≤ u then u - n + r * t else u := by rw [← hk]; unfold flK; rw [Int.sub_zero]
  have X8 := min_run u (u - n + r * t) k (by rw [hkk]; split <;> omega)
  have q2 : tmx t 0 = t := by unfold tmx; split <;> (try split) <;> omega
  have q3 : tmx (t - 1) t = t := by unfold tmx; split <;> (try split) <;> omega
  have q4 : tmx t t = t := by unfold tmx; split <;> (try split) <;> omega
  have Q1 : Hid (now2 r u (u - n) 0 t = k) := by unfold now2; rw [q2]; exact hk
  have Q2 : Hid (tmx t 0 = t) := q2
  have Q3 : Hid (tmx (t - 1) t = t) := q3
  have Q4 : Hid (tmx t t = t) := q4
  clear hk q2
  rcases Int.lt_or_le 0 r with g1 | g1
  · rcases Int.lt_or_le t n with g2 | g2
    · have hb9 : decide (n ≤ t) = false := decide_eq_false (by omega)
      clear hkk q3 q4
      go_wp2_with fail
      refine (tok_at b r u (u - n) 0 t k t _ K7 I7 Q1.out Q2.out).mono ?_
      rintro e w8 ⟨rfl, K8, I8, B8⟩
      have q5 : now2 r u k t (t - 1) = k := by unfold now2; rw [Q3.out]; exact fl_same I8
      have q6 : tkB (now2 r u k t t) k = true := by rw [show now2 r u k t t = k from by unfold now2; rw [Q4.out]; exact fl_same I8]; exact (tk_yes I8.k0 (Int.le_refl _)).1
      have q7 : tkK (now2 r u k t t) k = 0 := by rw [show now2 r u k t t = k from by unfold now2; rw [Q4.out]; exact fl_same I8, (tk_yes I8.k0 (Int.le_refl _)).2]; omega
      have Q5 : Hid (now2 r u k t (t - 1) = k) := q5
      have Q6 : Hid (tkB (now2 r u k t t) k = true) := q6
      have Q7 : Hid (tkK (now2 r u k t t) k = 0) := q7
      clear q5 q6 q7
      go_wp2_with fail
      refine (tok_at b r u k t (t - 1) k t _ K8 I8 Q5.out Q3.out).mono ?_
      rintro e w9 ⟨rfl, K9, I9, B9⟩
      go_wp2_with fail
      refine (take_at b r u k t t k 0 t true _ K9 I9 Q6.out Q7.out Q4.out).mono ?_
      rintro e w10 ⟨rfl, K10, I10, B10⟩
      have Q8 : Hid (now2 r u 0 t t = 0) := by unfold now2; rw [Q4.out]; exact fl_same I10
      go_wp2_with fail
      refine (tok_at b r u 0 t t 0 t _ K10 I10 Q8.out Q4.out).mono ?_
      rintro e w11 ⟨rfl, K11, I11, B11⟩
      go_wp2
      go_ret
      exact ⟨rfl, DB.out.trans ((B8.trans (B9.trans (B10.trans B11))).below (Nat.le_of_eq hb))⟩
    · have hku : k = u := by
        have : t ≤ r * t := by have := Int.mul_le_mul_of_nonneg_right (show (1 : Int) ≤ r by omega) b7; omega
        rw [hkk]; split <;> omega
      subst hku
      clear hkk q3 q4
      go_wp2_with fail
      refine (tok_at b r k (k - n) 0 t k t _ K7 I7 Q1.out Q2.out).mono ?_
      rintro e w8 ⟨rfl, K8, I8, B8⟩
      have q5 : now2 r k k t (t - 1) = k := by unfold now2; rw [Q3.out]; exact fl_same I8
      have q6 : tkB (now2 r k k t t) k = true := by rw [show now2 r k k t t = k from by unfold now2; rw [Q4.out]; exact fl_same I8]; exact (tk_yes I8.k0 (Int.le_refl _)).1
      have q7 : tkK (now2 r k k t t) k = 0 := by rw [show now2 r k k t t = k from by unfold now2; rw [Q4.out]; exact fl_same I8, (tk_yes I8.k0 (Int.le_refl _)).2]; omega
      have Q5 : Hid (now2 r k k t (t - 1) = k) := q5
      have Q6 : Hid (tkB (now2 r k k t t) k = true) := q6
      have Q7 : Hid (tkK (now2 r k k t t) k = 0) := q7
      clear q5 q6 q7
      go_wp2_with fail
      refine (tok_at b r k k t (t - 1) k t _ K8 I8 Q5.out Q3.out).mono ?_
      rintro e w9 ⟨rfl, K9, I9, B9⟩
      go_wp2_with fail
      refine (take_at b r k k t t k 0 t true _ K9 I9 Q6.out Q7.out Q4.out).mono ?_
      rintro e w10 ⟨rfl, K10, I10, B10⟩
      have Q8 : Hid (now2 r k 0 t t = 0) := by unfold now2; rw [Q4.out]; exact fl_same I10
      go_wp2_with fail
      refine (tok_at b r k 0 t t 0 t _ K10 I10 Q8.out Q4.out).mono ?_
      rintro e w11 ⟨rfl, K11, I11, B11⟩
      go_wp2
      go_ret
      exact ⟨rfl, DB.out.trans ((B8.trans (B9.trans (B10.trans B11))).below (Nat.le_of_eq hb))⟩
  · have hr0 : decide (0 < r) = false := decide_eq_false (by omega)
    clear hkk q3 q4
    go_wp2_with fail
    refine (tok_at b r u (u - n) 0 t k t _ K7 I7 Q1.out Q2.out).mono ?_
    rintro e w8 ⟨rfl, K8, I8, B8⟩
    have q5 : now2 r u k t (t - 1) = k := by unfold now2; rw [Q3.out]; exact fl_same I8
    have q6 : tkB (now2 r u k t t) k = true := by rw [show now2 r u k t t = k from by unfold now2; rw [Q4.out]; exact fl_same I8]; exact (tk_yes I8.k0 (Int.le_refl _)).1
    have q7 : tkK (now2 r u k t t) k = 0 := by rw [show now2 r u k t t = k from by unfold now2; rw [Q4.out]; exact fl_same I8, (tk_yes I8.k0 (Int.le_refl _)).2]; omega
    have Q5 : Hid (now2 r u k t (t - 1) = k) := q5
    have Q6 : Hid (tkB (now2 r u k t t) k = true) := q6
    have Q7 : Hid (tkK (now2 r u k t t) k = 0) := q7
    clear q5 q6 q7
    go_wp2_with fail
    refine (tok_at b r u k t (t - 1) k t _ K8 I8 Q5.out Q3.out).mono ?_
    rintro e w9 ⟨rfl, K9, I9, B9⟩
    go_wp2_with fail
    refine (take_at b r u k t t k 0 t true _ K9 I9 Q6.out Q7.out Q4.out).mono ?_
    rintro e w10 ⟨rfl, K10, I10, B10⟩
    have Q8 : Hid (now2 r u 0 t t = 0) := by unfold now2; rw [Q4.out]; exact fl_same I10
    go_wp2_with fail
    refine (tok_at b r u 0 t t 0 t _ K10 I10 Q8.out Q4.out).mono ?_
    rintro e w11 ⟨rfl, K11, I11, B11⟩
    go_wp2
    go_ret
    exact ⟨rfl, DB.out.trans ((B8.trans (B9.trans (B10.trans B11))).below (Nat.le_of_eq hb))⟩
end Go.Proofs.Ytpahicfgenffgaa
