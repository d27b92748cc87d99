/- The reference's Token, Value and Target: what each answers of every text. -/
import Derived.Test.YthbjdbookiejeabGreatDoorSgnE
namespace Go.Proofs.YthbjdbookiejeabGreatDoor
open Go.RowKit
set_option linter.unusedVariables false

def letP (c : Int) : Bool := spanP 97 122 c || spanP 65 90 c
def tokL : List Int := [33, 35, 36, 37, 38, 39, 42, 43, 45, 46, 94, 95, 96, 124, 126]
theorem tok_iff (c : Int) (h0 : 0 ≤ c) (h1 : c < 256) : tokP c = (tokL.any (fun x => c == x) || (letP c || spanP 48 57 c)) :=
  byte_all (P := fun c => tokP c = (tokL.any (fun x => c == x) || (letP c || spanP 48 57 c))) (by decide +kernel) c h0 h1

theorem letter_any (c : Int) (w : World) : Calls Tryz.prog 126 #[.int .u8 c] w fun e w' => e = .returned (.bool (letP c)) ∧ w' = w := by
  unfold letP spanP
  by_cases a : 97 ≤ c
  · by_cases b : c ≤ 122
    · go_enter Tryz.func126, Tryz.ntmps126
      go_wp2
      go_ret
      exact ⟨ret_b (by simp [a, b]), rfl⟩
    · have d : ¬ c ≤ 90 := by omega
      have f : 65 ≤ c := by omega
      go_enter Tryz.func126, Tryz.ntmps126
      go_wp2
      go_ret
      exact ⟨ret_b (by simp [b, d]), rfl⟩
  · by_cases f : 65 ≤ c
    · by_cases d : c ≤ 90
      · go_enter Tryz.func126, Tryz.ntmps126
        go_wp2
        go_ret
        exact ⟨ret_b (by simp), rfl⟩
      · go_enter Tryz.func126, Tryz.ntmps126
        go_wp2
        go_ret
        exact ⟨ret_b (by simp [d]; omega), rfl⟩
    · go_enter Tryz.func126, Tryz.ntmps126
      go_wp2
      go_ret
      exact ⟨ret_b (by simp; omega), rfl⟩

set_option maxHeartbeats 4000000 in
theorem tokenByte_any (c : Int) (w : World) (h0 : 0 ≤ c) (h1 : c < 256) : Calls Tryz.prog 92 #[.int .u8 c] w fun e w' => e = .returned (.bool (tokP c)) ∧ w' = w := by
  by_cases k0 : c = 33
  · subst k0
    go_enter Tryz.func92, Tryz.ntmps92
    go_wp2
    go_ret
    exact ⟨ret_b (by decide +kernel), rfl⟩
  by_cases k1 : c = 35
  · subst k1
    go_enter Tryz.func92, Tryz.ntmps92
    go_wp2
    go_ret
    exact ⟨ret_b (by decide +kernel), rfl⟩
  by_cases k2 : c = 36
  · subst k2
    go_enter Tryz.func92, Tryz.ntmps92
    go_wp2
    go_ret
    exact ⟨ret_b (by decide +kernel), rfl⟩
  by_cases k3 : c = 37
  · subst k3
    go_enter Tryz.func92, Tryz.ntmps92
    go_wp2
    go_ret
    exact ⟨ret_b (by decide +kernel), rfl⟩
  by_cases k4 : c = 38
  · subst k4
    go_enter Tryz.func92, Tryz.ntmps92
    go_wp2
    go_ret
    exact ⟨ret_b (by decide +kernel), rfl⟩
  by_cases k5 : c = 39
  · subst k5
    go_enter Tryz.func92, Tryz.ntmps92
    go_wp2
    go_ret
    exact ⟨ret_b (by decide +kernel), rfl⟩
  by_cases k6 : c = 42
  · subst k6
    go_enter Tryz.func92, Tryz.ntmps92
    go_wp2
    go_ret
    exact ⟨ret_b (by decide +kernel), rfl⟩
  by_cases k7 : c = 43
  · subst k7
    go_enter Tryz.func92, Tryz.ntmps92
    go_wp2
    go_ret
    exact ⟨ret_b (by decide +kernel), rfl⟩
  by_cases k8 : c = 45
  · subst k8
    go_enter Tryz.func92, Tryz.ntmps92
    go_wp2
    go_ret
    exact ⟨ret_b (by decide +kernel), rfl⟩
  by_cases k9 : c = 46
  · subst k9
    go_enter Tryz.func92, Tryz.ntmps92
    go_wp2
    go_ret
    exact ⟨ret_b (by decide +kernel), rfl⟩
  by_cases k10 : c = 94
  · subst k10
    go_enter Tryz.func92, Tryz.ntmps92
    go_wp2
    go_ret
    exact ⟨ret_b (by decide +kernel), rfl⟩
  by_cases k11 : c = 95
  · subst k11
    go_enter Tryz.func92, Tryz.ntmps92
    go_wp2
    go_ret
    exact ⟨ret_b (by decide +kernel), rfl⟩
  by_cases k12 : c = 96
  · subst k12
    go_enter Tryz.func92, Tryz.ntmps92
    go_wp2
    go_ret
    exact ⟨ret_b (by decide +kernel), rfl⟩
  by_cases k13 : c = 124
  · subst k13
    go_enter Tryz.func92, Tryz.ntmps92
    go_wp2
    go_ret
    exact ⟨ret_b (by decide +kernel), rfl⟩
  by_cases k14 : c = 126
  · subst k14
    go_enter Tryz.func92, Tryz.ntmps92
    go_wp2
    go_ret
    exact ⟨ret_b (by decide +kernel), rfl⟩
  have E : Hid (tokP c = (letP c || spanP 48 57 c)) := by rw [Hid, tok_iff c h0 h1]; simp [tokL, k0, k1, k2, k3, k4, k5, k6, k7, k8, k9, k10, k11, k12, k13, k14]
  have m0 : (c == 33) = false := beq_eq_false_iff_ne.2 k0
  have m1 : (c == 35) = false := beq_eq_false_iff_ne.2 k1
  have m2 : (c == 36) = false := beq_eq_false_iff_ne.2 k2
  have m3 : (c == 37) = false := beq_eq_false_iff_ne.2 k3
  have m4 : (c == 38) = false := beq_eq_false_iff_ne.2 k4
  have m5 : (c == 39) = false := beq_eq_false_iff_ne.2 k5
  have m6 : (c == 42) = false := beq_eq_false_iff_ne.2 k6
  have m7 : (c == 43) = false := beq_eq_false_iff_ne.2 k7
  have m8 : (c == 45) = false := beq_eq_false_iff_ne.2 k8
  have m9 : (c == 46) = false := beq_eq_false_iff_ne.2 k9
  have m10 : (c == 94) = false := beq_eq_false_iff_ne.2 k10
  have m11 : (c == 95) = false := beq_eq_false_iff_ne.2 k11
  have m12 : (c == 96) = false := beq_eq_false_iff_ne.2 k12
  have m13 : (c == 124) = false := beq_eq_false_iff_ne.2 k13
  have m14 : (c == 126) = false := beq_eq_false_iff_ne.2 k14
  rw [E.out]
  clear E k0 k1 k2 k3 k4 k5 k6 k7 k8 k9 k10 k11 k12 k13 k14
  cases hl : letP c
  · have HL : Hid (letP c = false) := hl
    clear hl
    go_enter Tryz.func92, Tryz.ntmps92
    go_wp2_with fail
    refine (letter_any c _).mono ?_
    rw [HL.out]
    rintro e w1 ⟨rfl, rfl⟩
    go_wp2_with fail
    refine (rdig_any c _).mono ?_
    rintro e w1 ⟨rfl, rfl⟩
    go_wp2
    go_ret
    exact ⟨ret_b (by simp), rfl⟩
  · have HL : Hid (letP c = true) := hl
    clear hl
    go_enter Tryz.func92, Tryz.ntmps92
    go_wp2_with fail
    refine (letter_any c _).mono ?_
    rw [HL.out]
    rintro e w1 ⟨rfl, rfl⟩
    go_wp2
    go_ret
    exact ⟨ret_b (by simp), rfl⟩
end Go.Proofs.YthbjdbookiejeabGreatDoor
