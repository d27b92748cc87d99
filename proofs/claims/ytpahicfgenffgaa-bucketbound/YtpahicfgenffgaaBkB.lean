/- Take and Tokens of a bucket; the document's example. -/
import Derived.Test.YtpahicfgenffgaaBkA
namespace Go.Proofs.Ytpahicfgenffgaa
open Go.RowKit
set_option linter.unusedVariables false

/-- The tokens at a call's time. -/
def now2 (r u k a now : Int) : Int := flK r u k a (tmx now a)
theorem KI.now {r u k a now : Int} (h : KI r u k a) : KI r u (now2 r u k a now) (tmx now a) := h.fill (tmx_bd h.a1).1 (tmx_bd h.a1).2
set_option maxHeartbeats 400000 in
theorem tok_any (b : Nat) (r u k a now : Int) (w : World) (hk : IsK w b r u k a) (hi : KI r u k a) :
    Calls Try.prog 11 #[.pointer (some ⟨b, 0, none⟩), .int .i64 now] w fun e w' => e = .returned (.int .i64 (now2 r u k a now)) ∧ IsK w' b r u (now2 r u k a now) (tmx now a) ∧ KI r u (now2 r u k a now) (tmx now a) ∧ But b w w' := by
  have HP : Hid (∀ W, IsK W b r u k a → Calls Try.prog 16 #[.pointer (some ⟨b, 0, none⟩), .int .i64 now] W fun e w' => e = .returned (.tuple #[]) ∧ IsK w' b r u (now2 r u k a now) (tmx now a) ∧ But b W w') := fun W h => pass_any b r u k a now W h hi
  have hn := KI.now (now := now) hi
  generalize now2 r u k a now = k2 at *
  generalize tmx now a = a2 at *
  have HN : Hid (KI r u k2 a2) := hn
  clear hn hi
  go_enter Try.func11, Try.ntmps11
  go_wp2_with fail
  refine (HP.out _ hk).mono ?_
  rintro e w1 ⟨rfl, hk1, hb1⟩
  have hc := hk1.c2
  go_wp2
  go_ret
  exact ⟨rfl, hk1, HN.out, hb1⟩

/-- Are n taken of k tokens, and what is left? -/
def tkB (k n : Int) : Bool := decide (0 ≤ n ∧ n ≤ k)
def tkK (k n : Int) : Int := if 0 ≤ n ∧ n ≤ k then k - n else k
theorem tk_yes {k n : Int} (c : 0 ≤ n) (d : n ≤ k) : tkB k n = true ∧ tkK k n = k - n := by
  unfold tkB tkK; exact ⟨decide_eq_true ⟨c, d⟩, if_pos ⟨c, d⟩⟩
theorem tk_no {k n : Int} (c : n < 0 ∨ k < n) : tkB k n = false ∧ tkK k n = k := by
  unfold tkB tkK; exact ⟨decide_eq_false (by omega), if_neg (by omega)⟩
theorem KI.took {r u k a n : Int} (h : KI r u k a) : KI r u (tkK k n) a := by
  obtain ⟨r0, r1, u0, u1, k0, k1, a0, a1⟩ := h
  refine ⟨r0, r1, u0, u1, ?_, ?_, a0, a1⟩ <;> unfold tkK <;> split <;> omega
set_option maxHeartbeats 400000 in
theorem take_any (b : Nat) (r u k a now n : Int) (w : World) (hk : IsK w b r u k a) (hi : KI r u k a) :
    Calls Try.prog 13 #[.pointer (some ⟨b, 0, none⟩), .int .i64 now, .int .i64 n] w fun e w' => e = .returned (.bool (tkB (now2 r u k a now) n)) ∧ IsK w' b r u (tkK (now2 r u k a now) n) (tmx now a) ∧ KI r u (tkK (now2 r u k a now) n) (tmx now a) ∧ But b w w' := by
  have HP : Hid (∀ W, IsK W b r u k a → Calls Try.prog 16 #[.pointer (some ⟨b, 0, none⟩), .int .i64 now] W fun e w' => e = .returned (.tuple #[]) ∧ IsK w' b r u (now2 r u k a now) (tmx now a) ∧ But b W w') := fun W h => pass_any b r u k a now W h hi
  have hn := KI.now (now := now) hi
  generalize now2 r u k a now = k2 at *
  generalize tmx now a = a2 at *
  have HN : Hid (KI r u (tkK k2 n) a2) := hn.took
  obtain ⟨_, _, _, u1, k0, k1, _, _⟩ := hn
  clear hi
  have hk2 : k2 ≤ 1048576 := by omega
  clear k1 u1
  rcases Int.lt_or_le n 0 with c | c
  · rw [(tk_no (k := k2) (n := n) (Or.inl c)).1, (tk_no (k := k2) (n := n) (Or.inl c)).2] at *
    go_enter Try.func13, Try.ntmps13
    go_wp2_with fail
    refine (HP.out _ hk).mono ?_
    rintro e w1 ⟨rfl, hk1, hb1⟩
    have hc := hk1.c2
    go_wp2
    go_ret
    exact ⟨rfl, hk1, HN.out, hb1⟩
  · rcases Int.lt_or_le k2 n with d | d
    · rw [(tk_no (k := k2) (n := n) (Or.inr d)).1, (tk_no (k := k2) (n := n) (Or.inr d)).2] at *
      go_enter Try.func13, Try.ntmps13
      go_wp2_with fail
      refine (HP.out _ hk).mono ?_
      rintro e w1 ⟨rfl, hk1, hb1⟩
      have hc := hk1.c2
      go_wp2
      go_ret
      exact ⟨rfl, hk1, HN.out, hb1⟩
    · rw [(tk_yes (k := k2) (n := n) c d).1, (tk_yes (k := k2) (n := n) c d).2] at *
      go_enter Try.func13, Try.ntmps13
      go_wp2_with fail
      refine (HP.out _ hk).mono ?_
      rintro e w1 ⟨rfl, hk1, hb1⟩
      have hc := hk1.c2
      have hz := hk1.z 2
      go_wp2
      go_ret
      exact ⟨rfl, hk1.set2 _, HN.out, hb1.trans (But.set _ _ _ _)⟩

/-- The same, the answer and what is left given. -/
theorem tok_at (b : Nat) (r u k a now k2 a2 : Int) (w : World) (hk : IsK w b r u k a) (hi : KI r u k a) (e1 : now2 r u k a now = k2) (e2 : tmx now a = a2) :
    Calls Try.prog 11 #[.pointer (some ⟨b, 0, none⟩), .int .i64 now] w fun e w' => e = .returned (.int .i64 k2) ∧ IsK w' b r u k2 a2 ∧ KI r u k2 a2 ∧ But b w w' := by
  have h := tok_any b r u k a now w hk hi
  rw [e1, e2] at h; exact h
theorem take_at (b : Nat) (r u k a now n k2 a2 : Int) (x : Bool) (w : World) (hk : IsK w b r u k a) (hi : KI r u k a) (e0 : tkB (now2 r u k a now) n = x) (e1 : tkK (now2 r u k a now) n = k2) (e2 : tmx now a = a2) :
    Calls Try.prog 13 #[.pointer (some ⟨b, 0, none⟩), .int .i64 now, .int .i64 n] w fun e w' => e = .returned (.bool x) ∧ IsK w' b r u k2 a2 ∧ KI r u k2 a2 ∧ But b w w' := by
  have h := take_any b r u k a now n w hk hi
  rw [e0, e1, e2] at h; exact h

set_option maxHeartbeats 800000 in
theorem alive_any (w : World) : Calls Try.prog 8 #[] w fun e w' => e = .returned (.bool true) ∧ Below w.heap.size w w' := by
  go_enter Try.func8, Try.ntmps8
  go_wp2_with fail
  refine (new_k 2 5 _).mono ?_
  rw [show bnd 2 = 2 from rfl, show bnd 5 = 5 from rfl]
  rintro e w1 ⟨b, rfl, hb, K1, I1, B1⟩
  go_wp2_with fail
  refine (take_at b 2 5 5 0 0 5 0 0 true _ K1 I1 rfl rfl rfl).mono ?_
  rintro e w2 ⟨rfl, K2, I2, B2⟩
  go_wp2_with fail
  refine (take_at b 2 5 0 0 0 1 0 0 false _ K2 I2 rfl rfl rfl).mono ?_
  rintro e w3 ⟨rfl, K3, I3, B3⟩
  go_wp2_with fail
  refine (tok_at b 2 5 0 0 2 4 2 _ K3 I3 rfl rfl).mono ?_
  rintro e w4 ⟨rfl, K4, I4, B4⟩
  go_wp2_with fail
  refine (tok_at b 2 5 4 2 9 5 9 _ K4 I4 rfl rfl).mono ?_
  rintro e w5 ⟨rfl, K5, I5, B5⟩
  go_wp2_with fail
  refine (take_at b 2 5 5 9 1 5 0 9 true _ K5 I5 rfl rfl rfl).mono ?_
  rintro e w6 ⟨rfl, K6, I6, B6⟩
  go_wp2
  go_ret
  exact ⟨rfl, B1.trans ((B2.trans (B3.trans (B4.trans (B5.trans B6)))).below (Nat.le_of_eq hb))⟩

end Go.Proofs.Ytpahicfgenffgaa
