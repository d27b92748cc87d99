/- What the reference's reading of numbers answers of every text. -/
import Derived.Test.YtbmpfjmnedlahabDoorHexR
namespace Go.Proofs.YtbmpfjmnedlahabDoor
open Go.RowKit
set_option linter.unusedVariables false

def isD (c : Int) : Bool := decide (48 ≤ c) && decide (c ≤ 57)
theorem rdigit_any (c : Int) (w : World) : Calls Tryd.prog 84 #[.int .u8 c] w fun e w' => e = .returned (.bool (isD c)) ∧ w' = w := by
  unfold isD
  by_cases a : 48 ≤ c
  · by_cases b : c ≤ 57
    · go_enter Tryd.func84, Tryd.ntmps84
      go_wp2
      go_ret
      exact ⟨ret_b (by simp [a, b]), rfl⟩
    · go_enter Tryd.func84, Tryd.ntmps84
      go_wp2
      go_ret
      exact ⟨ret_b (by simp [b]), rfl⟩
  · go_enter Tryd.func84, Tryd.ntmps84
    go_wp2
    go_ret
    exact ⟨ret_b (by simp; omega), rfl⟩

set_option maxHeartbeats 2000000 in
theorem rhex_any (s : ByteArray) (w : World) (hs : s.size ≤ maxLen) :
    Calls Tryd.prog 59 #[.string s] w fun e w' => e = .returned (.tuple #[.int .i64 (numI 16 15 s), .bool (numB 16 15 s)]) ∧ w' = w := by
  unfold maxLen at hs
  by_cases hz : (s.size : Int) < 1
  · have E : Hid (numI 16 15 s = 0 ∧ numB 16 15 s = false) := num_out (.inl (by omega))
    go_enter Tryd.func59, Tryd.ntmps59
    go_wp2
    go_ret2
    exact ⟨ret2_ib E.out.1.symm E.out.2.symm, rfl⟩
  · by_cases hm : (15 : Int) < (s.size : Int)
    · have E : Hid (numI 16 15 s = 0 ∧ numB 16 15 s = false) := num_out (.inr (by omega))
      go_enter Tryd.func59, Tryd.ntmps59
      go_wp2
      go_ret2
      exact ⟨ret2_ib E.out.1.symm E.out.2.symm, rfl⟩
    · have hout : Hid (¬ (s.size = 0 ∨ 15 < s.size)) := by rw [Hid]; omega
      go_enter Tryd.func59, Tryd.ntmps59
      go_wp2
      go_loop [4, 5] (fun vn vi => ∃ k n : Nat, k ≤ s.size ∧ vi = .int .i64 k ∧ vn = .int .i64 n ∧ Hid (vN 16 (s.data.toList.take k) = some n)) (fun _ vi => s.size - (intOf vi).toNat)
      case atStart => exact ⟨0, 0, Nat.zero_le _, rfl, rfl, rfl⟩
      case round =>
        obtain ⟨k, n, hk, rfl, rfl, hv⟩ := hrel
        by_cases hlt : k < s.size
        · have bd := byte_bd s[k]
          have hn : n < 72057594037927936 := vN_take_lt 16 14 (by decide) s k (by omega) n hv.out
          have HD : Hid (((dgN s[k] : Nat) : Int) = dgI (s[k].toNat : Int)) := dgN_cast s[k]
          by_cases hb : 48 ≤ (s[k].toNat : Int) ∧ (s[k].toNat : Int) ≤ 57
          · have E1 : Hid (dgI (s[k].toNat : Int) = (s[k].toNat : Int) - 48) := by rw [Hid, dgI, if_pos hb]
            have E : Hid (vN 16 (s.data.toList.take (k + 1)) = some (n * 16 + dgN s[k])) := vN_next 16 s k hlt n hv.out (by have := HD.out; have := E1.out; omega)
            have ED : Hid (isD (s[k].toNat : Int) = true) := by rw [Hid, isD]; simp; omega
            obtain ⟨b0, b1⟩ := hb
            go_wp2_with fail
            refine (rdigit_any _ _).mono ?_
            rw [ED.out]
            rintro e w' ⟨rfl, rfl⟩
            go_wp2
            go_round
            case rel => exact ⟨k + 1, n * 16 + dgN s[k], by omega, by go_num, by have h1 := HD.out; have h2 := E1.out; rw [Int.natCast_add, Int.natCast_mul, h1, h2]; rfl, E⟩
            case measure => simp [intOf]; omega
          · have ED : Hid (isD (s[k].toNat : Int) = false) := by rw [Hid, isD]; simp; omega
            by_cases hc : 97 ≤ (s[k].toNat : Int) ∧ (s[k].toNat : Int) ≤ 102
            · have E1 : Hid (dgI (s[k].toNat : Int) = (s[k].toNat : Int) - 97 + 10) := by rw [Hid, dgI, if_neg hb, if_pos hc]; omega
              have E : Hid (vN 16 (s.data.toList.take (k + 1)) = some (n * 16 + dgN s[k])) := vN_next 16 s k hlt n hv.out (by have := HD.out; have := E1.out; omega)
              obtain ⟨b0, b1⟩ := hc
              clear hb
              go_wp2_with fail
              refine (rdigit_any _ _).mono ?_
              rw [ED.out]
              rintro e w' ⟨rfl, rfl⟩
              go_wp2
              go_round
              case rel => exact ⟨k + 1, n * 16 + dgN s[k], by omega, by go_num, by have h1 := HD.out; have h2 := E1.out; rw [Int.natCast_add, Int.natCast_mul, h1, h2]; go_num, E⟩
              case measure => simp [intOf]; omega
            · by_cases hf : 65 ≤ (s[k].toNat : Int) ∧ (s[k].toNat : Int) ≤ 70
              · have E1 : Hid (dgI (s[k].toNat : Int) = (s[k].toNat : Int) - 65 + 10) := by rw [Hid, dgI, if_neg hb, if_neg hc, if_pos hf]; omega
                have E : Hid (vN 16 (s.data.toList.take (k + 1)) = some (n * 16 + dgN s[k])) := vN_next 16 s k hlt n hv.out (by have := HD.out; have := E1.out; omega)
                obtain ⟨b0, b1⟩ := hf
                have c0 : ¬ 97 ≤ (s[k].toNat : Int) := by omega
                clear hb hc
                go_wp2_with fail
                refine (rdigit_any _ _).mono ?_
                rw [ED.out]
                rintro e w' ⟨rfl, rfl⟩
                go_wp2
                go_round
                case rel => exact ⟨k + 1, n * 16 + dgN s[k], by omega, by go_num, by have h1 := HD.out; have h2 := E1.out; rw [Int.natCast_add, Int.natCast_mul, h1, h2]; go_num, E⟩
                case measure => simp [intOf]; omega
              · have E : Hid (numI 16 15 s = 0 ∧ numB 16 15 s = false) := num_bad (vN_bad_at 16 s k hlt (by have h1 := HD.out; unfold dgI at h1; rw [if_neg hb, if_neg hc, if_neg hf] at h1; omega))
                have HB : Hid (¬ (48 ≤ (s[k].toNat : Int) ∧ (s[k].toNat : Int) ≤ 57)) := hb
                clear hb
                by_cases x : 97 ≤ (s[k].toNat : Int)
                · have x2 : ¬ (s[k].toNat : Int) ≤ 102 := by omega
                  have x3 : 65 ≤ (s[k].toNat : Int) := by omega
                  have x4 : ¬ (s[k].toNat : Int) ≤ 70 := by omega
                  clear hc hf
                  go_wp2_with fail
                  refine (rdigit_any _ _).mono ?_
                  rw [ED.out]
                  rintro e w' ⟨rfl, rfl⟩
                  go_wp2
                  go_ret2
                  exact ⟨ret2_ib E.out.1.symm E.out.2.symm, rfl⟩
                · by_cases y : 65 ≤ (s[k].toNat : Int)
                  · have x4 : ¬ (s[k].toNat : Int) ≤ 70 := by omega
                    clear hc hf
                    go_wp2_with fail
                    refine (rdigit_any _ _).mono ?_
                    rw [ED.out]
                    rintro e w' ⟨rfl, rfl⟩
                    go_wp2
                    go_ret2
                    exact ⟨ret2_ib E.out.1.symm E.out.2.symm, rfl⟩
                  · clear hc hf
                    go_wp2_with fail
                    refine (rdigit_any _ _).mono ?_
                    rw [ED.out]
                    rintro e w' ⟨rfl, rfl⟩
                    go_wp2
                    go_ret2
                    exact ⟨ret2_ib E.out.1.symm E.out.2.symm, rfl⟩
        · go_wp2
          go_ret2
          have hk' : k = s.size := by omega
          subst hk'
          have h := hv.out
          rw [List.take_of_length_le (by simp)] at h
          exact ⟨ret2_ib (num_ok hout.out h).1.symm (num_ok hout.out h).2.symm, rfl⟩
end Go.Proofs.YtbmpfjmnedlahabDoor
