/- The reference's telling of every number. -/
import Derived.Test.YtmmileafiainnabDoorNumE
namespace Go.Proofs.YtmmileafiainnabDoor
open Go.RowKit
set_option linter.unusedVariables false

theorem itoa_min : (⟨#[45, 57, 50, 50, 51, 51, 55, 50, 48, 51, 54, 56, 53, 52, 55, 55, 53, 56, 48, 56]⟩ : ByteArray) = ⟨(Lib.itoa (-9223372036854775808)).toArray⟩ := by decide +kernel
set_option maxRecDepth 100000 in
set_option maxHeartbeats 2000000 in
theorem rtext_any (n : Int) (h0 : -9223372036854775808 ≤ n) (h1 : n ≤ 9223372036854775807) (w : World) :
    Calls Tryd.prog 24 #[.int .i64 n] w fun e w' => e = .returned (.string ⟨(Lib.itoa n).toArray⟩) ∧ Below w.heap.size w w' := by
  rcases Int.lt_or_le n 0 with c | c
  · by_cases hm : n = -9223372036854775808
    · subst hm
      have HE : Hid _ := itoa_min
      go_enter Tryd.func24, Tryd.ntmps24
      go_wp2
      go_ret
      exact ⟨ret_s HE.out, Below.refl _ _⟩
    · obtain ⟨k, hk⟩ : ∃ k : Nat, n = -(k : Int) := ⟨n.natAbs, by omega⟩
      have HE : Hid ((⟨#[45]⟩ : ByteArray) ++ ⟨(Lib.decDigits k).toArray⟩ = ⟨(Lib.itoa n).toArray⟩) := by
        rw [Hid]
        refine bytes_ext ?_
        rw [cons_data, Lib.itoa, if_pos c, show n.natAbs = k by omega]
      have hlen := dec_len 18 k (by omega)
      have hcat := fun W : World => run_string_add (P := Tryd.prog) (w := W) ⟨#[45]⟩ ⟨(Lib.decDigits k).toArray⟩ (show ((1 : Nat) : Int) ≤ 8388608 by decide) (by rw [size_of]; omega)
      have HK : Hid (k < 9223372036854775808) := by rw [Hid]; omega
      have hne : (n == -9223372036854775808) = false := beq_eq_false_iff_ne.2 hm
      have hk0 : (0 : Int) < (k : Int) := by omega
      have hk1 : (k : Int) ≤ 9223372036854775807 := by omega
      clear hm hlen h0 h1
      subst hk
      go_enter Tryd.func24, Tryd.ntmps24
      go_wp2_with fail
      refine (rtext_nat k HK.out _).mono ?_
      rintro e w1 ⟨rfl, hB⟩
      clear hk1
      go_wp2
      go_ret
      exact ⟨ret_s HE.out, hB⟩
  · obtain ⟨k, rfl⟩ := Int.eq_ofNat_of_zero_le c
    have e : Lib.itoa (k : Int) = Lib.decDigits k := by rw [Lib.itoa, if_neg (by omega), Int.toNat_natCast]
    rw [e]
    exact rtext_nat k (by omega) w

set_option maxRecDepth 100000 in
set_option maxHeartbeats 2000000 in
theorem rhexText_any (n : Int) (h1 : n ≤ 9223372036854775807) (w : World) :
    Calls Tryd.prog 26 #[.int .i64 n] w fun e w' => e = .returned (.string ⟨(hexT n.toNat).toArray⟩) ∧ Below w.heap.size w w' := by
  rcases Int.lt_or_le n 0 with c | c
  · rw [show n.toNat = 0 by omega]
    have hcv := conv1 w 48 48 rfl
    have HE : Hid ((⟨#[48]⟩ : ByteArray) ++ ⟨#[]⟩ = ⟨(hexT 0).toArray⟩) := by rw [Hid]; decide
    have hemp : ((⟨#[48]⟩ : ByteArray) ++ ⟨#[]⟩).toList.isEmpty = false := isEmpty_of (cons_size _ _)
    clear h1
    go_enter Tryd.func26, Tryd.ntmps26
    go_wp2_with fail
    refine wp_loop_rounds 2 ?_
    rw [rounds_succ]
    go_wp2
    rw [rounds_succ]
    go_wp2
    go_ret
    exact ⟨ret_s HE.out, (Below.refl _ _).alloc (Nat.le_refl _) _⟩
  · obtain ⟨k, rfl⟩ := Int.eq_ofNat_of_zero_le c
    rw [Int.toNat_natCast]
    exact rhex_nat k (by omega) w
end Go.Proofs.YtmmileafiainnabDoor
