/- Token: what it answers of every text. -/
import Derived.Test.YtdibldocfhpnkaaDoorSgnB
namespace Go.Proofs.YtdibldocfhpnkaaDoor
open Go.RowKit
set_option linter.unusedVariables false

set_option maxHeartbeats 2000000 in
theorem token_any (s : ByteArray) (w : World) (hs : s.size ≤ maxLen) :
    Calls Tryd.prog 21 #[.string s] w fun e w' => e = .returned (.bool (allB tokP s.data.toList && decide (0 < s.size))) ∧ Below w.heap.size w w' := by
  by_cases hz : s.size = 0
  · have he := empty_of hz
    subst he
    go_enter Tryd.func21, Tryd.ntmps21
    go_wp2
    go_ret
    exact ⟨rfl, Below.refl _ _⟩
  · have HZ : Hid (decide (0 < s.size) = true) := by rw [Hid]; simp; omega
    have hne := isEmpty_of hz
    clear hz
    rw [HZ.out]
    go_enter Tryd.func21, Tryd.ntmps21
    go_wp2_with fail
    refine (span_any 97 122 _).mono ?_
    rintro e w1 ⟨p0, q0, rfl, h0, k0, B1⟩
    go_wp2_with fail
    refine (span_any 65 90 _).mono ?_
    rintro e w2 ⟨p1, q1, rfl, h1, k1, B2⟩
    go_wp2_with fail
    refine (span_any 48 57 _).mono ?_
    rintro e w3 ⟨p2, q2, rfl, h2, k2, B3⟩
    go_wp2_with fail
    refine (among_any sgn _).mono ?_
    rintro e w4 ⟨p3, rfl, h3, B4⟩
    go_wp2_with fail
    have hb := sblk_new w4 (.cells #[.func (.func 53) #[] #[.pointer (some ⟨p0, 0, none⟩), .pointer (some ⟨q0, 0, none⟩)], .func (.func 53) #[] #[.pointer (some ⟨p1, 0, none⟩), .pointer (some ⟨q1, 0, none⟩)], .func (.func 53) #[] #[.pointer (some ⟨p2, 0, none⟩), .pointer (some ⟨q2, 0, none⟩)], .func (.func 54) #[] #[.pointer (some ⟨p3, 0, none⟩)]] 65)
    have B5 := (Below.refl w4.heap.size w4).alloc (Nat.le_refl _) (.cells #[.func (.func 53) #[] #[.pointer (some ⟨p0, 0, none⟩), .pointer (some ⟨q0, 0, none⟩)], .func (.func 53) #[] #[.pointer (some ⟨p1, 0, none⟩), .pointer (some ⟨q1, 0, none⟩)], .func (.func 53) #[] #[.pointer (some ⟨p2, 0, none⟩), .pointer (some ⟨q2, 0, none⟩)], .func (.func 54) #[] #[.pointer (some ⟨p3, 0, none⟩)]] 65)
    refine (either_any w4.heap.size 4 4 (w4.alloc (.cells #[.func (.func 53) #[] #[.pointer (some ⟨p0, 0, none⟩), .pointer (some ⟨q0, 0, none⟩)], .func (.func 53) #[] #[.pointer (some ⟨p1, 0, none⟩), .pointer (some ⟨q1, 0, none⟩)], .func (.func 53) #[] #[.pointer (some ⟨p2, 0, none⟩), .pointer (some ⟨q2, 0, none⟩)], .func (.func 54) #[] #[.pointer (some ⟨p3, 0, none⟩)]] 65))).mono ?_
    generalize w4.alloc (.cells #[.func (.func 53) #[] #[.pointer (some ⟨p0, 0, none⟩), .pointer (some ⟨q0, 0, none⟩)], .func (.func 53) #[] #[.pointer (some ⟨p1, 0, none⟩), .pointer (some ⟨q1, 0, none⟩)], .func (.func 53) #[] #[.pointer (some ⟨p2, 0, none⟩), .pointer (some ⟨q2, 0, none⟩)], .func (.func 54) #[] #[.pointer (some ⟨p3, 0, none⟩)]] 65) = w5 at *
    rintro e w6 ⟨r, rfl, hr, B6⟩
    have D4 := B5.trans (B6.mono B5.size)
    have D3 := B4.trans (D4.mono B4.size)
    have D2 := B3.trans (D3.mono B3.size)
    have D1 := B2.trans (D2.mono B2.size)
    have D0 := B1.trans (D1.mono B1.size)
    have H := fun c (_ : (0 : Int) ≤ c) (_ : c < 256) => either4 c r w4.heap.size 4 p0 q0 p1 q1 p2 q2 p3 w6 hr (sblk_below hb B6) (sblk_below h0 D1) (sblk_below k0 D1) (sblk_below h1 D2) (sblk_below k1 D2) (sblk_below h2 D3) (sblk_below k2 D3) (sblk_below h3 D4)
    have HA : Hid (Calls Tryd.prog 35 #[.string s, .func (.func 52) #[] #[.pointer (some ⟨r, 0, none⟩)]] w6 fun e w' => e = .returned (.bool (allB tokP s.data.toList)) ∧ w' = w6) := all49 s _ tokP w6 hs H
    clear H h0 k0 h1 k1 h2 k2 h3 hb hr B1 B2 B3 B4 B5 B6 D1 D2 D3 D4
    go_wp2_with fail
    refine HA.out.mono ?_
    rintro e w7 ⟨rfl, rfl⟩
    go_wp2
    go_ret
    exact ⟨ret_b (by simp), D0⟩
end Go.Proofs.YtdibldocfhpnkaaDoor
