/- The reference's bucket: New, Fill, Take. -/
import Derived.Test.YtpahicfgenffgaaBkD
namespace Go.Proofs.Ytpahicfgenffgaa
open Go.RowKit
set_option linter.unusedVariables false

/-- Between. -/
def btw (n lo hi : Int) : Int := if n < lo then lo else if n > hi then hi else n
set_option maxHeartbeats 400000 in
theorem between_any (n lo hi : Int) (w : World) :
    Calls Try.prog 15 #[.int .i64 n, .int .i64 lo, .int .i64 hi] w fun e w' => e = .returned (.int .i64 (btw n lo hi)) ∧ w' = w := by
  by_cases c : n < lo
  · have f : btw n lo hi = lo := by unfold btw; rw [if_pos c]
    rw [f]; clear f
    go_enter Try.func15, Try.ntmps15
    go_wp2
    go_ret
    exact ⟨rfl, rfl⟩
  · by_cases d : n > hi
    · have f : btw n lo hi = hi := by unfold btw; rw [if_neg c, if_pos d]
      rw [f]; clear f
      go_enter Try.func15, Try.ntmps15
      go_wp2
      go_ret
      exact ⟨rfl, rfl⟩
    · have f : btw n lo hi = n := by unfold btw; rw [if_neg c, if_neg d]
      rw [f]; clear f
      go_enter Try.func15, Try.ntmps15
      go_wp2
      go_ret
      exact ⟨rfl, rfl⟩
theorem between_at (n lo hi z : Int) (h : btw n lo hi = z) (w : World) :
    Calls Try.prog 15 #[.int .i64 n, .int .i64 lo, .int .i64 hi] w fun e w' => e = .returned (.int .i64 z) ∧ w' = w := h ▸ between_any n lo hi w
theorem btw_bnd (n : Int) : btw n 0 1048576 = bnd n := rfl
theorem btw_tmx (n a : Int) : btw n a 1099511627776 = tmx n a := rfl
theorem btw_fl {r u k a T : Int} (h : KI r u k a) (hT : a ≤ T) : btw (k + r * (T - a)) 0 u = flK r u k a T := by
  have : 0 ≤ r * (T - a) := Int.mul_nonneg h.r0 (by omega)
  have := h.k0
  unfold btw flK; split <;> (try split) <;> (try split) <;> omega

set_option maxHeartbeats 400000 in
theorem r14new_any (r u : Int) (w : World) : Calls Try.prog 9 #[.int .i64 r, .int .i64 u] w fun e w' => e = .returned (.agg #[.int .i64 (bnd r), .int .i64 (bnd u), .int .i64 (bnd u), .int .i64 0]) ∧ Below w.heap.size w w' := by
  generalize hr : bnd r = r'
  generalize hu : bnd u = u'
  have HR : Hid (btw r 0 1048576 = r') := hr
  have HU : Hid (btw u 0 1048576 = u') := hu
  clear hr hu
  go_enter Try.func9, Try.ntmps9
  go_wp2_with fail
  refine (between_at _ _ _ _ HU.out _).mono ?_
  rintro e w' ⟨rfl, rfl⟩
  go_wp2_with fail
  refine (between_at _ _ _ _ HR.out _).mono ?_
  rintro e w' ⟨rfl, rfl⟩
  go_wp2
  refine bodyPost_ret (v := .agg #[.int .i64 r', .int .i64 u', .int .i64 u', .int .i64 0]) (by simp [results, Try.results9, go_sem]) rfl ⟨rfl, ?_⟩
  exact (Below.refl _ _).alloc (Nat.le_refl _) _

set_option maxHeartbeats 800000 in
theorem r14fill_any (r u k a now : Int) (w : World) (hi : KI r u k a) : Calls Try.prog 10 #[.agg #[.int .i64 r, .int .i64 u, .int .i64 k, .int .i64 a], .int .i64 now] w fun e w' => e = .returned (.agg #[.int .i64 r, .int .i64 u, .int .i64 (now2 r u k a now), .int .i64 (tmx now a)]) ∧ w' = (w.alloc (.cells #[.int .i64 r, .int .i64 u, .int .i64 (now2 r u k a now), .int .i64 (tmx now a)] 27)).alloc (.cells #[.int .i64 r, .int .i64 u, .int .i64 (now2 r u k a now), .int .i64 (tmx now a)] 27) := by
  have hT := tmx_bd (now := now) hi.a1
  have HB : Hid (btw (k + r * (tmx now a - a)) 0 u = now2 r u k a now) := btw_fl hi hT.1
  have HT : Hid (btw now a 1099511627776 = tmx now a) := btw_tmx now a
  generalize now2 r u k a now = k2 at *
  generalize tmx now a = T at *
  obtain ⟨t0, t1⟩ := hT
  obtain ⟨r0, r1, u0, u1, k0, k1, a0, a1⟩ := hi
  obtain ⟨p0, p1⟩ := mul_bd r0 r1 (by omega : 0 ≤ T - a) (by omega)
  go_enter Try.func10, Try.ntmps10
  go_wp2_with fail
  refine (between_at _ _ _ _ HT.out _).mono ?_
  rintro e w' ⟨rfl, rfl⟩
  go_wp2_with fail
  refine (between_at _ _ _ _ HB.out _).mono ?_
  rintro e w' ⟨rfl, rfl⟩
  go_wp2
  refine bodyPost_ret (v := .agg #[.int .i64 r, .int .i64 u, .int .i64 k2, .int .i64 T]) (by simp [results, Try.results10, go_sem]) rfl ⟨rfl, rfl⟩

set_option maxHeartbeats 1600000 in
theorem r14take_any (r u k a now n : Int) (w : World) (hi : KI r u k a) : Calls Try.prog 12 #[.agg #[.int .i64 r, .int .i64 u, .int .i64 k, .int .i64 a], .int .i64 now, .int .i64 n] w fun e w' => e = .returned (.tuple #[.agg #[.int .i64 r, .int .i64 u, .int .i64 (tkK (now2 r u k a now) n), .int .i64 (tmx now a)], .bool (tkB (now2 r u k a now) n)]) ∧ Below w.heap.size w w' := by
  have HF : Hid (∀ W, Calls Try.prog 10 #[.agg #[.int .i64 r, .int .i64 u, .int .i64 k, .int .i64 a], .int .i64 now] W fun e w' => e = .returned (.agg #[.int .i64 r, .int .i64 u, .int .i64 (now2 r u k a now), .int .i64 (tmx now a)]) ∧ w' = (W.alloc (.cells #[.int .i64 r, .int .i64 u, .int .i64 (now2 r u k a now), .int .i64 (tmx now a)] 27)).alloc (.cells #[.int .i64 r, .int .i64 u, .int .i64 (now2 r u k a now), .int .i64 (tmx now a)] 27)) := fun W => r14fill_any r u k a now W hi
  have hn := KI.now (now := now) hi
  generalize now2 r u k a now = k2 at *
  generalize tmx now a = T at *
  obtain ⟨_, _, _, u1, k0, k1, _, _⟩ := hn
  have hk2 : k2 ≤ 1048576 := by omega
  clear k1 u1 hi
  have BEL : ∀ o1 o2 o3 o4, Below w.heap.size w ((((w.alloc o1).alloc o2).alloc o3).alloc o4) := fun o1 o2 o3 o4 => ((((Below.refl _ _).alloc (Nat.le_refl _) _).alloc (by simp) _).alloc (by simp; omega) _).alloc (by simp; omega) _
  rcases Int.lt_or_le n 0 with c | c
  · rw [(tk_no (k := k2) (n := n) (Or.inl c)).1, (tk_no (k := k2) (n := n) (Or.inl c)).2]
    go_enter Try.func12, Try.ntmps12
    go_wp2_with fail
    refine (HF.out _).mono ?_
    rintro e w1 ⟨rfl, rfl⟩
    go_wp2
    refine bodyPost_ret (v := .tuple #[.agg #[.int .i64 r, .int .i64 u, .int .i64 k2, .int .i64 T], .bool false]) (by simp [results, Try.results12, go_sem]) rfl ⟨rfl, BEL _ _ _ _⟩
  · rcases Int.lt_or_le k2 n with d | d
    · rw [(tk_no (k := k2) (n := n) (Or.inr d)).1, (tk_no (k := k2) (n := n) (Or.inr d)).2]
      go_enter Try.func12, Try.ntmps12
      go_wp2_with fail
      refine (HF.out _).mono ?_
      rintro e w1 ⟨rfl, rfl⟩
      go_wp2
      refine bodyPost_ret (v := .tuple #[.agg #[.int .i64 r, .int .i64 u, .int .i64 k2, .int .i64 T], .bool false]) (by simp [results, Try.results12, go_sem]) rfl ⟨rfl, BEL _ _ _ _⟩
    · rw [(tk_yes (k := k2) (n := n) c d).1, (tk_yes (k := k2) (n := n) c d).2]
      go_enter Try.func12, Try.ntmps12
      go_wp2_with fail
      refine (HF.out _).mono ?_
      rintro e w1 ⟨rfl, rfl⟩
      go_wp2
      refine bodyPost_ret (v := .tuple #[.agg #[.int .i64 r, .int .i64 u, .int .i64 (k2 - n), .int .i64 T], .bool true]) (by simp [results, Try.results12, go_sem]) rfl ⟨rfl, BEL _ _ _ _⟩

end Go.Proofs.Ytpahicfgenffgaa
