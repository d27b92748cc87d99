/- Texts that the proof leans on, one behind the other: SgnE SgnC SgnD FldO FldB RefB RefC RDig RDec RHex LinBr JoinA -/
import Derived.Test.YtkdnckkdofoaoaaGreatDoorKc
import Derived.Test.YtkdnckkdofoaoaaGreatDoorKl
import Derived.Deep.QuietTactic
import Derived.BigQuiet
import Derived.Deep.RegionHeld3
import Derived.Test.YtkdnckkdofoaoaaGreatDoorKd
import Derived.Test.YtkdnckkdofoaoaaGreatDoorKb
/- The reference's Digit and Value. -/
namespace Go.Proofs.YtkdnckkdofoaoaaGreatDoor
open Go.RowKit
set_option linter.unusedVariables false

/-- A byte, as a number: 256 cases. -/
theorem byte_all {P : Int → Prop} (h : ∀ n : Nat, n < 256 → P (n : Int)) (c : Int) (h0 : 0 ≤ c) (h1 : c < 256) : P c := by
  obtain ⟨n, rfl⟩ := Int.eq_ofNat_of_zero_le h0
  exact h n (by omega)
theorem val_iff (c : Int) (h0 : 0 ≤ c) (h1 : c < 256) : valP c = !((decide (c < 32) && !decide (c = 9)) || decide (c = 127)) :=
  byte_all (P := fun c => valP c = !((decide (c < 32) && !decide (c = 9)) || decide (c = 127))) (by decide +kernel) c h0 h1

theorem rdig_any (c : Int) (w : World) : Calls Tryz.prog 82 #[.int .u8 c] w fun e w' => e = .returned (.bool (spanP 48 57 c)) ∧ w' = w := by
  unfold spanP
  by_cases a : 48 ≤ c
  · by_cases b : c ≤ 57
    · go_enter Tryz.func82, Tryz.ntmps82
      go_wp2
      go_ret
      exact ⟨ret_b (by simp [a, b]), rfl⟩
    · go_enter Tryz.func82, Tryz.ntmps82
      go_wp2
      go_ret
      exact ⟨ret_b (by simp [b]), rfl⟩
  · go_enter Tryz.func82, Tryz.ntmps82
    go_wp2
    go_ret
    exact ⟨ret_b (by simp; omega), rfl⟩

set_option maxHeartbeats 1000000 in
theorem rValue_any (s : ByteArray) (w : World) (hs : s.size ≤ maxLen) :
    Calls Tryz.prog 90 #[.string s] w fun e w' => e = .returned (.bool (allB valP s.data.toList)) ∧ w' = w := by
  unfold maxLen at hs
  go_enter Tryz.func90, Tryz.ntmps90
  go_wp2
  go_loop [3] (fun i => ∃ k : Nat, k ≤ s.size ∧ i = .int .i64 k ∧ Hid (allB valP (s.data.toList.take k) = true)) (fun i => s.size - (intOf i).toNat)
  case atStart => exact ⟨0, Nat.zero_le _, rfl, rfl⟩
  case round =>
    obtain ⟨k, hk, rfl, hA⟩ := hrel
    by_cases hlt : k < s.size
    · have bd := byte_bd s[k]
      have hv : Hid (valP (s[k].toNat : Int) = _) := val_iff _ bd.1 bd.2
      by_cases a : (s[k].toNat : Int) < 32
      · by_cases b : (s[k].toNat : Int) = 9
        · have HC : Hid (valP (s[k].toNat : Int) = true) := by rw [Hid, b]; decide +kernel
          have b1 : ((s[k].toNat : Int) != 9) = false := by simp [b]
          have b2 : ((s[k].toNat : Int) == 127) = false := by simp [b]
          clear b hv
          go_wp2
          go_round
          case rel => exact ⟨k + 1, by omega, by go_num, allB_snoc s k hlt hA.out HC.out⟩
          case measure => simp [intOf]; omega
        · have HC : Hid (valP (s[k].toNat : Int) = false) := by rw [Hid, hv.out]; simp [a, b]
          have b1 : ((s[k].toNat : Int) != 9) = true := by simp [b]
          clear b hv
          go_wp2
          go_ret
          exact ⟨ret_b (allB_false s k hlt HC.out).symm, rfl⟩
      · by_cases b : (s[k].toNat : Int) = 127
        · have HC : Hid (valP (s[k].toNat : Int) = false) := by rw [Hid, hv.out]; simp [b]
          have b2 : ((s[k].toNat : Int) == 127) = true := by simp [b]
          clear b hv
          go_wp2
          go_ret
          exact ⟨ret_b (allB_false s k hlt HC.out).symm, rfl⟩
        · have HC : Hid (valP (s[k].toNat : Int) = true) := by rw [Hid, hv.out]; simp [a, b]
          have b2 : ((s[k].toNat : Int) == 127) = false := by simp [b]
          clear b hv
          go_wp2
          go_round
          case rel => exact ⟨k + 1, by omega, by go_num, allB_snoc s k hlt hA.out HC.out⟩
          case measure => simp [intOf]; omega
    · go_wp2
      go_ret
      have hk' : k = s.size := by omega
      subst hk'
      exact ⟨ret_b (by have h := hA.out; rw [List.take_of_length_le (by simp)] at h; exact h.symm), rfl⟩

end Go.Proofs.YtkdnckkdofoaoaaGreatDoor

/- The reference's Token, Value and Target: what each answers of every text. -/
namespace Go.Proofs.YtkdnckkdofoaoaaGreatDoor
open Go.RowKit
set_option linter.unusedVariables false

def letP (c : Int) : Bool := spanP 97 122 c || spanP 65 90 c
def tokL : List Int := [33, 35, 36, 37, 38, 39, 42, 43, 45, 46, 94, 95, 96, 124, 126]
theorem tok_iff (c : Int) (h0 : 0 ≤ c) (h1 : c < 256) : tokP c = (tokL.any (fun x => c == x) || (letP c || spanP 48 57 c)) :=
  byte_all (P := fun c => tokP c = (tokL.any (fun x => c == x) || (letP c || spanP 48 57 c))) (by decide +kernel) c h0 h1

theorem letter_any (c : Int) (w : World) : Calls Tryz.prog 173 #[.int .u8 c] w fun e w' => e = .returned (.bool (letP c)) ∧ w' = w := by
  unfold letP spanP
  by_cases a : 97 ≤ c
  · by_cases b : c ≤ 122
    · go_enter Tryz.func173, Tryz.ntmps173
      go_wp2
      go_ret
      exact ⟨ret_b (by simp [a, b]), rfl⟩
    · have d : ¬ c ≤ 90 := by omega
      have f : 65 ≤ c := by omega
      go_enter Tryz.func173, Tryz.ntmps173
      go_wp2
      go_ret
      exact ⟨ret_b (by simp [b, d]), rfl⟩
  · by_cases f : 65 ≤ c
    · by_cases d : c ≤ 90
      · go_enter Tryz.func173, Tryz.ntmps173
        go_wp2
        go_ret
        exact ⟨ret_b (by simp), rfl⟩
      · go_enter Tryz.func173, Tryz.ntmps173
        go_wp2
        go_ret
        exact ⟨ret_b (by simp [d]; omega), rfl⟩
    · go_enter Tryz.func173, Tryz.ntmps173
      go_wp2
      go_ret
      exact ⟨ret_b (by simp; omega), rfl⟩

set_option maxHeartbeats 4000000 in
theorem tokenByte_any (c : Int) (w : World) (h0 : 0 ≤ c) (h1 : c < 256) : Calls Tryz.prog 146 #[.int .u8 c] w fun e w' => e = .returned (.bool (tokP c)) ∧ w' = w := by
  by_cases k0 : c = 33
  · subst k0
    go_enter Tryz.func146, Tryz.ntmps146
    go_wp2
    go_ret
    exact ⟨ret_b (by decide +kernel), rfl⟩
  by_cases k1 : c = 35
  · subst k1
    go_enter Tryz.func146, Tryz.ntmps146
    go_wp2
    go_ret
    exact ⟨ret_b (by decide +kernel), rfl⟩
  by_cases k2 : c = 36
  · subst k2
    go_enter Tryz.func146, Tryz.ntmps146
    go_wp2
    go_ret
    exact ⟨ret_b (by decide +kernel), rfl⟩
  by_cases k3 : c = 37
  · subst k3
    go_enter Tryz.func146, Tryz.ntmps146
    go_wp2
    go_ret
    exact ⟨ret_b (by decide +kernel), rfl⟩
  by_cases k4 : c = 38
  · subst k4
    go_enter Tryz.func146, Tryz.ntmps146
    go_wp2
    go_ret
    exact ⟨ret_b (by decide +kernel), rfl⟩
  by_cases k5 : c = 39
  · subst k5
    go_enter Tryz.func146, Tryz.ntmps146
    go_wp2
    go_ret
    exact ⟨ret_b (by decide +kernel), rfl⟩
  by_cases k6 : c = 42
  · subst k6
    go_enter Tryz.func146, Tryz.ntmps146
    go_wp2
    go_ret
    exact ⟨ret_b (by decide +kernel), rfl⟩
  by_cases k7 : c = 43
  · subst k7
    go_enter Tryz.func146, Tryz.ntmps146
    go_wp2
    go_ret
    exact ⟨ret_b (by decide +kernel), rfl⟩
  by_cases k8 : c = 45
  · subst k8
    go_enter Tryz.func146, Tryz.ntmps146
    go_wp2
    go_ret
    exact ⟨ret_b (by decide +kernel), rfl⟩
  by_cases k9 : c = 46
  · subst k9
    go_enter Tryz.func146, Tryz.ntmps146
    go_wp2
    go_ret
    exact ⟨ret_b (by decide +kernel), rfl⟩
  by_cases k10 : c = 94
  · subst k10
    go_enter Tryz.func146, Tryz.ntmps146
    go_wp2
    go_ret
    exact ⟨ret_b (by decide +kernel), rfl⟩
  by_cases k11 : c = 95
  · subst k11
    go_enter Tryz.func146, Tryz.ntmps146
    go_wp2
    go_ret
    exact ⟨ret_b (by decide +kernel), rfl⟩
  by_cases k12 : c = 96
  · subst k12
    go_enter Tryz.func146, Tryz.ntmps146
    go_wp2
    go_ret
    exact ⟨ret_b (by decide +kernel), rfl⟩
  by_cases k13 : c = 124
  · subst k13
    go_enter Tryz.func146, Tryz.ntmps146
    go_wp2
    go_ret
    exact ⟨ret_b (by decide +kernel), rfl⟩
  by_cases k14 : c = 126
  · subst k14
    go_enter Tryz.func146, Tryz.ntmps146
    go_wp2
    go_ret
    exact ⟨ret_b (by decide +kernel), rfl⟩
  have E : Hid (tokP c = (letP c || spanP 48 57 c)) := by rw [Hid, tok_iff c h0 h1]; simp [tokL, k0, k1, k2, k3, k4, k5, k6, k7, k8, k9, k10, k11, k12, k13, k14]
  have m0 : (c == 33) = false := beq_eq_false_iff_ne.2 k0
  have m1 : (c == 35) = false := beq_eq_false_iff_ne.2 k1
  have m2 : (c == 36) = false := beq_eq_false_iff_ne.2 k2
  have m3 : (c == 37) = false := beq_eq_false_iff_ne.2 k3
  have m4 : (c == 38) = false := beq_eq_false_iff_ne.2 k4
  have m5 : (c == 39) = false := beq_eq_false_iff_ne.2 k5
  have m6 : (c == 42) = false := beq_eq_false_iff_ne.2 k6
  have m7 : (c == 43) = false := beq_eq_false_iff_ne.2 k7
  have m8 : (c == 45) = false := beq_eq_false_iff_ne.2 k8
  have m9 : (c == 46) = false := beq_eq_false_iff_ne.2 k9
  have m10 : (c == 94) = false := beq_eq_false_iff_ne.2 k10
  have m11 : (c == 95) = false := beq_eq_false_iff_ne.2 k11
  have m12 : (c == 96) = false := beq_eq_false_iff_ne.2 k12
  have m13 : (c == 124) = false := beq_eq_false_iff_ne.2 k13
  have m14 : (c == 126) = false := beq_eq_false_iff_ne.2 k14
  rw [E.out]
  clear E k0 k1 k2 k3 k4 k5 k6 k7 k8 k9 k10 k11 k12 k13 k14
  cases hl : letP c
  · have HL : Hid (letP c = false) := hl
    clear hl
    go_enter Tryz.func146, Tryz.ntmps146
    go_wp2_with fail
    refine (letter_any c _).mono ?_
    rw [HL.out]
    rintro e w1 ⟨rfl, rfl⟩
    go_wp2_with fail
    refine (rdig_any c _).mono ?_
    rintro e w1 ⟨rfl, rfl⟩
    go_wp2
    go_ret
    exact ⟨ret_b (by simp), rfl⟩
  · have HL : Hid (letP c = true) := hl
    clear hl
    go_enter Tryz.func146, Tryz.ntmps146
    go_wp2_with fail
    refine (letter_any c _).mono ?_
    rw [HL.out]
    rintro e w1 ⟨rfl, rfl⟩
    go_wp2
    go_ret
    exact ⟨ret_b (by simp), rfl⟩
end Go.Proofs.YtkdnckkdofoaoaaGreatDoor

/- The reference's loops; then Token, Value and Target themselves. -/
namespace Go.Proofs.YtkdnckkdofoaoaaGreatDoor
open Go.RowKit
set_option linter.unusedVariables false

set_option maxHeartbeats 1000000 in
theorem rToken_any (s : ByteArray) (w : World) (hs : s.size ≤ maxLen) :
    Calls Tryz.prog 112 #[.string s] w fun e w' => e = .returned (.bool (allB tokP s.data.toList && decide (0 < s.size))) ∧ w' = w := by
  unfold maxLen at hs
  go_enter Tryz.func112, Tryz.ntmps112
  go_wp2
  go_loop [3] (fun i => ∃ k : Nat, k ≤ s.size ∧ i = .int .i64 k ∧ Hid (allB tokP (s.data.toList.take k) = true)) (fun i => s.size - (intOf i).toNat)
  case atStart => exact ⟨0, Nat.zero_le _, rfl, rfl⟩
  case round =>
    obtain ⟨k, hk, rfl, hA⟩ := hrel
    by_cases hlt : k < s.size
    · have bd := byte_bd s[k]
      go_wp2_with fail
      refine (tokenByte_any _ _ bd.1 bd.2).mono ?_
      rintro e w' ⟨rfl, rfl⟩
      cases hpc : tokP (s[k].toNat : Int)
      · have HC : Hid (tokP (s[k].toNat : Int) = false) := hpc
        clear hpc
        go_wp2
        go_ret
        exact ⟨ret_b (by rw [allB_false s k hlt HC.out]; rfl), rfl⟩
      · have HC : Hid (tokP (s[k].toNat : Int) = true) := hpc
        clear hpc
        go_wp2
        go_round
        case rel => exact ⟨k + 1, by omega, by go_num, allB_snoc s k hlt hA.out HC.out⟩
        case measure => simp [intOf]; omega
    · go_wp2
      go_ret
      have hk' : k = s.size := by omega
      subst hk'
      exact ⟨ret_b (by have h := hA.out; rw [List.take_of_length_le (by simp)] at h; rw [h]; simp), rfl⟩


end Go.Proofs.YtkdnckkdofoaoaaGreatDoor

/- The reference's fields: which are right; a line read. -/
namespace Go.Proofs.YtkdnckkdofoaoaaGreatDoor
open Go.RowKit
set_option linter.unusedVariables false

set_option maxRecDepth 100000 in
set_option maxHeartbeats 4000000 in
theorem r4one_any (n v : ByteArray) (w : World) (hn : n.size ≤ 140737488355328) (hv : v.size ≤ 140737488355328) : Calls Tryz.prog 131 #[.agg #[.string n, .string v]] w fun e w' => e = .returned (.bool (okF n v)) ∧ Below w.heap.size w w' := by
  unfold okF okName okVal eqT
  have HT : Hid (∀ w, Calls Tryz.prog 112 #[.string n] w fun e w' => e = .returned (.bool (allB tokP n.data.toList && decide (0 < n.size))) ∧ w' = w) := fun w => rToken_any n w (by unfold maxLen; omega)
  have HV : Hid (∀ w, Calls Tryz.prog 90 #[.string v] w fun e w' => e = .returned (.bool (allB valP v.data.toList)) ∧ w' = w) := fun w => rValue_any v w (by unfold maxLen; omega)
  have HR : Hid (∀ w, Calls Tryz.prog 130 #[.string v] w fun e w' => e = .returned (.string (trimT v)) ∧ w' = w) := fun w => rtrim_any v w hv
  generalize (allB tokP n.data.toList && decide (0 < n.size)) = t at *
  generalize allB valP v.data.toList = u at *
  generalize trimT v = T at *
  clear hn hv
  cases t
  · rw [Bool.and_false, Bool.false_and]
    clear HV HR
    go_enter Tryz.func131, Tryz.ntmps131
    go_wp2
    go_quiet (first | (go_at_call 112; exact Calls.quiet_of_same (HT.out _)) | (go_at_call 90; exact Calls.quiet_of_same (HV.out _)) | (go_at_call 130; exact Calls.quiet_of_same (HR.out _)))
    go_wp2
    go_ret
    exact ⟨by rfl, ((Below.refl _ _).alloc (Nat.le_refl _) _).trans (below_drewN _ _ _)⟩
  · rw [Bool.and_true]
    by_cases h1 : n.size ≤ 100
    · have k1 : (n.size : Int) ≤ 100 := by omega
      rw [decide_eq_true h1, Bool.true_and]
      cases u
      · rw [Bool.and_false, Bool.false_and]
        clear HR h1
        go_enter Tryz.func131, Tryz.ntmps131
        go_wp2
        go_quiet (first | (go_at_call 112; exact Calls.quiet_of_same (HT.out _)) | (go_at_call 90; exact Calls.quiet_of_same (HV.out _)) | (go_at_call 130; exact Calls.quiet_of_same (HR.out _)))
        go_wp2
        go_ret
        exact ⟨by rfl, ((Below.refl _ _).alloc (Nat.le_refl _) _).trans (below_drewN _ _ _)⟩
      · rw [Bool.and_true]
        by_cases he : T.toList == v.toList
        · rw [he, Bool.and_true]
          by_cases h2 : v.size ≤ 1000
          · have k2 : (v.size : Int) ≤ 1000 := by omega
            rw [decide_eq_true h2]
            clear h1 h2
            go_enter Tryz.func131, Tryz.ntmps131
            go_wp2
            go_quiet (first | (go_at_call 112; exact Calls.quiet_of_same (HT.out _)) | (go_at_call 90; exact Calls.quiet_of_same (HV.out _)) | (go_at_call 130; exact Calls.quiet_of_same (HR.out _)))
            go_wp2
            go_ret
            exact ⟨by rfl, ((Below.refl _ _).alloc (Nat.le_refl _) _).trans (below_drewN _ _ _)⟩
          · have k2 : decide ((v.size : Int) ≤ 1000) = false := decide_eq_false (by omega)
            rw [decide_eq_false h2]
            clear h1 h2
            go_enter Tryz.func131, Tryz.ntmps131
            go_wp2
            go_quiet (first | (go_at_call 112; exact Calls.quiet_of_same (HT.out _)) | (go_at_call 90; exact Calls.quiet_of_same (HV.out _)) | (go_at_call 130; exact Calls.quiet_of_same (HR.out _)))
            go_wp2
            go_ret
            exact ⟨by rfl, ((Below.refl _ _).alloc (Nat.le_refl _) _).trans (below_drewN _ _ _)⟩
        · have he' : (T.toList == v.toList) = false := by simpa using he
          rw [he', Bool.and_false]
          clear h1 he
          go_enter Tryz.func131, Tryz.ntmps131
          go_wp2
          go_quiet (first | (go_at_call 112; exact Calls.quiet_of_same (HT.out _)) | (go_at_call 90; exact Calls.quiet_of_same (HV.out _)) | (go_at_call 130; exact Calls.quiet_of_same (HR.out _)))
          go_wp2
          go_ret
          exact ⟨by rfl, ((Below.refl _ _).alloc (Nat.le_refl _) _).trans (below_drewN _ _ _)⟩
    · have k1 : decide ((n.size : Int) ≤ 100) = false := decide_eq_false (by omega)
      rw [decide_eq_false h1, Bool.false_and]
      clear HV HR h1
      go_enter Tryz.func131, Tryz.ntmps131
      go_wp2
      go_quiet (first | (go_at_call 112; exact Calls.quiet_of_same (HT.out _)) | (go_at_call 90; exact Calls.quiet_of_same (HV.out _)) | (go_at_call 130; exact Calls.quiet_of_same (HR.out _)))
      go_wp2
      go_ret
      exact ⟨by rfl, ((Below.refl _ _).alloc (Nat.le_refl _) _).trans (below_drewN _ _ _)⟩

end Go.Proofs.YtkdnckkdofoaoaaGreatDoor

/- The reference's fields: which are right; a line read. -/
namespace Go.Proofs.YtkdnckkdofoaoaaGreatDoor
open Go.RowKit
set_option linter.unusedVariables false

set_option maxRecDepth 100000 in
set_option maxHeartbeats 4000000 in
theorem rparse_any (s : ByteArray) (w : World) (hs : s.size < 4294967281) : Calls Tryz.prog 91 #[.string s] w fun e w' => e = .returned (.tuple #[.agg #[.string (prs s).1, .string (prs s).2.1], .bool (decide ((prs s).2.2 = 0))]) ∧ Below w.heap.size w w' := by
  go_enter Tryz.func91, Tryz.ntmps91
  go_wp2_with fail
  go_loopw [4] (fun vi wr => ∃ k : Nat, k ≤ s.size ∧ vi = .int .i64 k ∧ Hid (∀ b ∈ s.data.toList.take k, b ≠ 58) ∧ wr.heap[w.heap.size]? = some (.cells #[.string ⟨#[]⟩, .string ⟨#[]⟩] 41) ∧ Below w.heap.size w wr) (fun vi _ => s.size - (intOf vi).toNat)
  case atStart => exact ⟨0, Nat.zero_le _, rfl, (fun b hb => by simp at hb), tblk_new _ _, (Below.refl _ _).alloc (Nat.le_refl _) _⟩
  case round =>
    obtain ⟨k, hk, rfl, hno, hg, hB⟩ := hrel
    have a0 : wr.cell? ⟨w.heap.size, 0, none⟩ = some (.string ⟨#[]⟩) := tblk_cell hg rfl
    have a1 : wr.cell? ⟨w.heap.size, 1, none⟩ = some (.string ⟨#[]⟩) := tblk_cell hg rfl
    have z0 : wr.frozen? ⟨w.heap.size, 0, none⟩ = false := tblk_z hg
    have z1 : wr.frozen? ⟨w.heap.size, 1, none⟩ = false := tblk_z hg
    by_cases hlt : k < s.size
    · by_cases hb : (s[k].toNat : Int) = 58
      · have hb' : s[k] = 58 := by
          apply UInt8.toNat_inj.1
          show s[k].toNat = 58
          omega
        have HP : Hid (prs s = if okF (s.extract 0 k) (trimT (s.extract (k + 1) s.size)) then (s.extract 0 k, trimT (s.extract (k + 1) s.size), 0) else (⟨#[]⟩, ⟨#[]⟩, 20)) := prs_at s k hlt hno.out hb'
        have hx1 : Hid ((s.extract 0 k).size ≤ 140737488355328) := by rw [Hid, ByteArray.size_extract]; omega
        have hx2 : Hid ((s.extract (k + 1) s.size).size ≤ 140737488355328) := by rw [Hid, ByteArray.size_extract]; omega
        have hx3 : Hid ((trimT (s.extract (k + 1) s.size)).size ≤ 140737488355328) := by rw [Hid]; have := hx2.out; have := trimT_size (s.extract (k + 1) s.size); omega
        have HR : Hid (∀ w, Calls Tryz.prog 130 #[.string (s.extract (k + 1) s.size)] w fun e w' => e = .returned (.string (trimT (s.extract (k + 1) s.size))) ∧ w' = w) := fun w => rtrim_any _ w hx2.out
        have HO : Hid (∀ w, Calls Tryz.prog 131 #[.agg #[.string (s.extract 0 k), .string (trimT (s.extract (k + 1) s.size))]] w fun e w' => e = .returned (.bool (okF (s.extract 0 k) (trimT (s.extract (k + 1) s.size)))) ∧ Below w.heap.size w w') := fun w => r4one_any _ _ w hx1.out hx3.out
        generalize trimT (s.extract (k + 1) s.size) = T at *
        have q1 : (k : Int) + 1 ≤ (s.size : Int) := by omega
        have q2 : (0 : Int) ≤ (k : Int) + 1 := by omega
        have q3 : (k : Int) ≤ (s.size : Int) := by omega
        have q4 : IntKind.i64.wrap ((k : Int) + 1) = (k : Int) + 1 := by rw [IntKind.wrap_i64]; omega
        have q5 : ((k : Int) + 1).toNat = k + 1 := by omega
        go_wp2
        go_region_held3 (fun _ => True) (go_keep) (first | (go_at_call 130; refine (HR.out _).mono ?_; rintro e w' ⟨rfl, rfl⟩))
        all_goals
          have gW : ((wr.alloc (.cells #[.string (s.extract 0 k), .string T] 41)).drew).heap[w.heap.size]? = some (.cells #[.string ⟨#[]⟩, .string ⟨#[]⟩] 41) := (Below.heap_alloc _ _ _ (Array.getElem?_eq_some_iff.1 hg).1).trans hg
          have fW : ((wr.alloc (.cells #[.string (s.extract 0 k), .string T] 41)).drew).heap[wr.heap.size]? = some (.cells #[.string (s.extract 0 k), .string T] 41) := tblk_new _ _
          have CW : Below w.heap.size w ((wr.alloc (.cells #[.string (s.extract 0 k), .string T] 41)).drew) := (hB.alloc hB.size _).drew
          generalize (wr.alloc (.cells #[.string (s.extract 0 k), .string T] 41)).drew = W at *
          clear a0 a1 z0 z1 hg hB
          have b0 : W.cell? ⟨wr.heap.size, 0, none⟩ = some (.string (s.extract 0 k)) := tblk_cell fW rfl
          have b1 : W.cell? ⟨wr.heap.size, 1, none⟩ = some (.string T) := tblk_cell fW rfl
          generalize s.extract 0 k = nm at *
          generalize okF nm T = ok at *
          go_wp2_with fail
          refine (HO.out _).mono ?_
          rintro e w5 ⟨rfl, B5⟩
          have g5 := tblk_below gW B5
          have f5 := tblk_below fW B5
          have C5 := CW.trans (B5.mono CW.size)
          clear b0 b1 gW fW CW B5
          have a0 : w5.cell? ⟨w.heap.size, 0, none⟩ = some (.string ⟨#[]⟩) := tblk_cell g5 rfl
          have a1 : w5.cell? ⟨w.heap.size, 1, none⟩ = some (.string ⟨#[]⟩) := tblk_cell g5 rfl
          have b0 : w5.cell? ⟨wr.heap.size, 0, none⟩ = some (.string nm) := tblk_cell f5 rfl
          have b1 : w5.cell? ⟨wr.heap.size, 1, none⟩ = some (.string T) := tblk_cell f5 rfl
          have z0 : w5.frozen? ⟨w.heap.size, 0, none⟩ = false := tblk_z g5
          have z1 : w5.frozen? ⟨w.heap.size, 1, none⟩ = false := tblk_z g5
          cases ok
          · have HW := two_cells g5 ⟨#[]⟩ ⟨#[]⟩
            have r0 := HW.2.1
            have r1 := HW.2.2.1
            have C6 : Hid (Below w.heap.size w ((w5.setCell ⟨w.heap.size, 0, none⟩ (.string ⟨#[]⟩)).setCell ⟨w.heap.size, 1, none⟩ (.string ⟨#[]⟩))) := (C5.setCell (p := ⟨w.heap.size, 0, none⟩) (Nat.le_refl _) _).setCell (p := ⟨w.heap.size, 1, none⟩) (Nat.le_refl _) _
            clear g5 f5 HW C5
            go_wp2
            refine bodyPost_ret (v := .tuple #[.agg #[.string ⟨#[]⟩, .string ⟨#[]⟩], .bool false]) (by simp [results, Tryz.results91, go_sem, r0, r1]) rfl ⟨?_, C6.out⟩
            rw [HP.out]; rfl
          · have HW := two_cells g5 nm T
            have r0 := HW.2.1
            have r1 := HW.2.2.1
            have C6 : Hid (Below w.heap.size w ((w5.setCell ⟨w.heap.size, 0, none⟩ (.string nm)).setCell ⟨w.heap.size, 1, none⟩ (.string T))) := (C5.setCell (p := ⟨w.heap.size, 0, none⟩) (Nat.le_refl _) _).setCell (p := ⟨w.heap.size, 1, none⟩) (Nat.le_refl _) _
            clear g5 f5 HW C5
            go_wp2
            refine bodyPost_ret (v := .tuple #[.agg #[.string nm, .string T], .bool true]) (by simp [results, Tryz.results91, go_sem, r0, r1]) rfl ⟨?_, C6.out⟩
            rw [HP.out]; rfl
      · have hb' : ¬ ((s[k].toNat : Int) == 58) = true := by simpa using hb
        go_wp2
        go_roundw
        case rel =>
          refine ⟨k + 1, by omega, by go_num, ?_, hg, hB⟩
          intro b hm
          have hk' : k < s.data.toList.length := hlt
          rw [List.take_succ_eq_append_getElem hk'] at hm
          rcases List.mem_append.1 hm with hm | hm
          · exact hno.out b hm
          · rw [List.mem_singleton.1 hm]
            intro c
            exact hb (by rw [show s[k] = s.data.toList[k] from rfl, c]; rfl)
        case measure => simp [intOf]; omega
    · have hP : Hid (prs s = (⟨#[]⟩, ⟨#[]⟩, 20)) := prs_no s (by have h := hno.out; rwa [List.take_of_length_le (show s.data.toList.length ≤ k by show s.size ≤ k; omega)] at h)
      have HW := two_cells hg ⟨#[]⟩ ⟨#[]⟩
      have r0 := HW.2.1
      have r1 := HW.2.2.1
      have C2 : Hid (Below w.heap.size w ((wr.setCell ⟨w.heap.size, 0, none⟩ (.string ⟨#[]⟩)).setCell ⟨w.heap.size, 1, none⟩ (.string ⟨#[]⟩))) := (hB.setCell (p := ⟨w.heap.size, 0, none⟩) (Nat.le_refl _) _).setCell (p := ⟨w.heap.size, 1, none⟩) (Nat.le_refl _) _
      clear hg HW hB
      go_wp2
      refine bodyPost_ret (v := .tuple #[.agg #[.string ⟨#[]⟩, .string ⟨#[]⟩], .bool false]) (by simp [results, Tryz.results91, go_sem, r0, r1]) rfl ⟨?_, C2.out⟩
      rw [hP.out]; rfl
end Go.Proofs.YtkdnckkdofoaoaaGreatDoor

/- The reference's Fold. -/
namespace Go.Proofs.YtkdnckkdofoaoaaGreatDoor
open Go.RowKit
set_option linter.unusedVariables false

theorem info5 : (Tryz.prog.info? 5).map (fun i => (i.zero, i.size, i.bytes)) = some (some (.int .u8 0), 1, 1) := by kernel_rfl
theorem owns_bytes {w : World} {base g cv : Nat} {l : List UInt8} (h : w.ownsRow base 5 1 (.slice (some ⟨g, 0, none⟩) l.length cv) l.length (l.map bvT)) :
    (convert 22 9 (.slice (some ⟨g, 0, none⟩) l.length cv)).run Tryz.prog w = .ok (.string ⟨l.toArray⟩) w :=
  run_convert_bytes_back (P := Tryz.prog) w 22 9 5 ⟨g, 0, none⟩ cv l Tryz.underlying22 Tryz.underlying5 Tryz.underlying9 (fun j hj => by
    rw [Lib.add_plain, Nat.zero_add]
    have k := h.cellAt j (by omega)
    rw [k, List.getElem?_map, List.getElem?_eq_getElem hj]; rfl)
theorem lit0 (w : World) (e : TypeId) : (w.alloc (.cells #[] e)).ownsRow w.heap.size e 1 (.slice (some ⟨w.heap.size, 0, none⟩) 0 0) 0 [] :=
  ⟨rfl, .inr ⟨w.heap.size, 0, #[], rfl, Nat.le_refl _, tblk_new _ _, Nat.le_refl _, by decide, rfl, rfl⟩⟩
theorem foldL_snoc (l : List UInt8) (k : Nat) (h : k < l.length) : (foldL (l.take (k + 1))).map bvT = (foldL (l.take k)).map bvT ++ [bvT (foldB l[k])] := by
  unfold foldL
  rw [List.take_succ_eq_append_getElem h, List.map_append, List.map_append]; rfl
theorem foldL_length (l : List UInt8) (k : Nat) (h : k ≤ l.length) : (foldL (l.take k)).length = k := by simp [foldL]; omega

set_option maxRecDepth 100000 in
set_option maxHeartbeats 4000000 in
theorem rfold_any (s : ByteArray) (w : World) (hs : s.size ≤ 4294967281) : Calls Tryz.prog 83 #[.string s] w fun e w' => e = .returned (.string (foldS s)) ∧ Below w.heap.size w w' := by
  obtain ⟨i0, hi, hz0, hz1, hz2⟩ := info_parts info5
  have hlen : s.data.toList.length = s.size := rfl
  have HL : Hid (s.data.toList.length = s.size) := hlen
  clear hlen
  go_enter Tryz.func83, Tryz.ntmps83
  go_wp2_with fail
  go_loopw [3, 4] (fun v vi wr => ∃ k g cv : Nat, k ≤ s.size ∧ vi = .int .i64 k ∧ v = .slice (some ⟨g, 0, none⟩) k cv ∧ Hid (wr.ownsRow w.heap.size 5 1 v k ((foldL (s.data.toList.take k)).map bvT)) ∧ Below w.heap.size w wr) (fun _ vi _ => s.size - (intOf vi).toNat)
  case atStart => exact ⟨0, w.heap.size, 0, Nat.zero_le _, rfl, rfl, lit0 w 5, (Below.refl _ _).alloc (Nat.le_refl _) _⟩
  case round =>
    obtain ⟨k, g, cv, hk, rfl, rfl, hown, hB⟩ := hrel
    by_cases hlt : k < s.size
    · have hsn : Hid ((foldL (s.data.toList.take (k + 1))).map bvT = (foldL (s.data.toList.take k)).map bvT ++ [bvT (foldB s[k])]) := foldL_snoc _ k hlt
      have bd := s[k].toNat_lt
      by_cases h1 : 65 ≤ (s[k].toNat : Int)
      · by_cases h2 : (s[k].toNat : Int) ≤ 90
        · rw [foldB_yes h1 h2] at hsn
          generalize (foldL (s.data.toList.take k)).map bvT = K at *
          go_wp2_with (first
            | (at_builtin; refine wpList_append_own _ rfl _ _ 22 rfl w.heap.size 5 i0 (.int .u8 0) 1 1 Tryz.underlying22 hi hz0 hz1 hz2 rfl (by decide) _ _ _ rfl (hown.out.alloc _) ⟨wr.heap.size, 0, none⟩ 1 1 [.int .u8 ((s[k].toNat : Int) + 32)] rfl rfl (cell_one_new _ _ _) (fun x hx => by simp at hx; subst hx; rfl) (by unfold maxLen; omega) (by omega) (by have := hB.size; simp; omega) ?_; intro v' w3 hown' hgrow3 hnil3))
          go_roundw
          case rel =>
            obtain ⟨g3, cap3, hv3⟩ : ∃ g3 cap3, v' = .slice (some ⟨g3, 0, none⟩) (k + 1) cap3 := by
              rcases hown'.2 with ⟨_, h⟩ | ⟨g3, cap3, _, h, _⟩
              · omega
              · exact ⟨g3, cap3, h⟩
            have hb3 : Below w.heap.size wr w3 := ((Below.refl _ _).alloc hB.size _).grown hgrow3 (by have := hB.size; simp; omega) (fun q hq => (hown.out.lt q hq).1)
            exact ⟨k + 1, g3, cap3, by omega, by go_num, hv3, by rw [hsn.out]; exact hown', hB.trans hb3⟩
          case measure => simp [intOf]; omega
        · have hno : ¬ (65 ≤ (s[k].toNat : Int) ∧ (s[k].toNat : Int) ≤ 90) := fun h => h2 h.2
          rw [foldB_no hno] at hsn
          clear hno
          generalize (foldL (s.data.toList.take k)).map bvT = K at *
          go_wp2_with (first
            | (at_builtin; refine wpList_append_own _ rfl _ _ 22 rfl w.heap.size 5 i0 (.int .u8 0) 1 1 Tryz.underlying22 hi hz0 hz1 hz2 rfl (by decide) _ _ _ rfl (hown.out.alloc _) ⟨wr.heap.size, 0, none⟩ 1 1 [.int .u8 (s[k].toNat : Int)] rfl rfl (cell_one_new _ _ _) (fun x hx => by simp at hx; subst hx; rfl) (by unfold maxLen; omega) (by omega) (by have := hB.size; simp; omega) ?_; intro v' w3 hown' hgrow3 hnil3))
          go_roundw
          case rel =>
            obtain ⟨g3, cap3, hv3⟩ : ∃ g3 cap3, v' = .slice (some ⟨g3, 0, none⟩) (k + 1) cap3 := by
              rcases hown'.2 with ⟨_, h⟩ | ⟨g3, cap3, _, h, _⟩
              · omega
              · exact ⟨g3, cap3, h⟩
            have hb3 : Below w.heap.size wr w3 := ((Below.refl _ _).alloc hB.size _).grown hgrow3 (by have := hB.size; simp; omega) (fun q hq => (hown.out.lt q hq).1)
            exact ⟨k + 1, g3, cap3, by omega, by go_num, hv3, by rw [hsn.out]; exact hown', hB.trans hb3⟩
          case measure => simp [intOf]; omega
      · have hno : ¬ (65 ≤ (s[k].toNat : Int) ∧ (s[k].toNat : Int) ≤ 90) := fun h => h1 h.1
        rw [foldB_no hno] at hsn
        clear hno
        generalize (foldL (s.data.toList.take k)).map bvT = K at *
        go_wp2_with (first
          | (at_builtin; refine wpList_append_own _ rfl _ _ 22 rfl w.heap.size 5 i0 (.int .u8 0) 1 1 Tryz.underlying22 hi hz0 hz1 hz2 rfl (by decide) _ _ _ rfl (hown.out.alloc _) ⟨wr.heap.size, 0, none⟩ 1 1 [.int .u8 (s[k].toNat : Int)] rfl rfl (cell_one_new _ _ _) (fun x hx => by simp at hx; subst hx; rfl) (by unfold maxLen; omega) (by omega) (by have := hB.size; simp; omega) ?_; intro v' w3 hown' hgrow3 hnil3))
        go_roundw
        case rel =>
          obtain ⟨g3, cap3, hv3⟩ : ∃ g3 cap3, v' = .slice (some ⟨g3, 0, none⟩) (k + 1) cap3 := by
            rcases hown'.2 with ⟨_, h⟩ | ⟨g3, cap3, _, h, _⟩
            · omega
            · exact ⟨g3, cap3, h⟩
          have hb3 : Below w.heap.size wr w3 := ((Below.refl _ _).alloc hB.size _).grown hgrow3 (by have := hB.size; simp; omega) (fun q hq => (hown.out.lt q hq).1)
          exact ⟨k + 1, g3, cap3, by omega, by go_num, hv3, by rw [hsn.out]; exact hown', hB.trans hb3⟩
        case measure => simp [intOf]; omega
    · have hke : k = s.size := by omega
      subst hke
      have hcv := owns_bytes (l := foldL s.data.toList) (w := wr) (base := w.heap.size) (g := g) (cv := cv) (by
        have h := hown.out
        rw [← HL.out, List.take_length] at h
        unfold foldL at h ⊢
        rw [List.length_map]
        exact h)
      have hll : (foldL s.data.toList).length = s.size := by unfold foldL; rw [List.length_map]; exact HL.out
      rw [hll] at hcv
      clear hown hll
      go_wp2
      go_ret
      exact ⟨rfl, hB⟩

end Go.Proofs.YtkdnckkdofoaoaaGreatDoor

/- The reference's Split. -/
namespace Go.Proofs.YtkdnckkdofoaoaaGreatDoor
open Go.RowKit
set_option linter.unusedVariables false

set_option maxRecDepth 100000 in
set_option maxHeartbeats 4000000 in
theorem rsplit_any (s : ByteArray) (w : World) (hs : s.size ≤ 4294967281) :
    Calls Tryz.prog 123 #[.string s] w fun e w' => ∃ ao cv, e = .returned (.slice ao (keepT (pieces s)).length cv) ∧ w'.ownsRow w.heap.size 9 1 (.slice ao (keepT (pieces s)).length cv) (keepT (pieces s)).length ((keepT (pieces s)).map Value.string) ∧ Below w.heap.size w w' := by
  obtain ⟨i0, hi, hz0, hz1, hz2⟩ := info_parts info9
  go_enter Tryz.func123, Tryz.ntmps123
  go_wp2_with fail
  go_loopw [3, 4, 5] (fun v vf vi wr => ∃ (k f : Nat) (ps : List ByteArray) (ao : Option Addr) (cv : Nat), k ≤ s.size + 1 ∧ f ≤ k ∧ vi = .int .i64 k ∧ vf = .int .i64 f ∧ v = .slice ao (keepT ps).length cv ∧ (keepT ps).length ≤ k ∧ Hid (wr.ownsRow w.heap.size 9 1 v (keepT ps).length ((keepT ps).map Value.string)) ∧ Hid (k ≤ s.size → Scan s ps f k) ∧ Hid (k = s.size + 1 → ps = pieces s) ∧ Below w.heap.size w wr) (fun _ _ vi _ => s.size + 1 - (intOf vi).toNat)
  case atStart => exact ⟨0, 0, [], some ⟨w.heap.size, 0, none⟩, 0, Nat.zero_le _, Nat.le_refl _, rfl, rfl, rfl, Nat.le_refl _, lit0 w 9, fun _ => Scan.start s, (fun h => by omega), (Below.refl _ _).alloc (Nat.le_refl _) _⟩
  case round =>
    obtain ⟨k, f, ps, ao, cv, hk, hf, rfl, rfl, rfl, hkl, hown, hsc, hfi, hB⟩ := hrel
    by_cases hle : (k : Int) ≤ (s.size : Int)
    · have hex : (s.extract f k).size ≤ 140737488355328 := by rw [ByteArray.size_extract]; omega
      have HEX : Hid ((s.extract f k).size ≤ 140737488355328) := hex
      have hsn : Hid (keepT (ps ++ [s.extract f k]) = keepT ps ++ (if (trimT (s.extract f k)).size = 0 then [] else [trimT (s.extract f k)])) := keepT_snoc _ _
      clear hex
      by_cases hend : k = s.size
      · subst hend
        have HC : Hid (s.size + 1 ≤ s.size → Scan s (ps ++ [s.extract f s.size]) (s.size + 1) (s.size + 1)) := fun h => by omega
        have HF : Hid (ps ++ [s.extract f s.size] = pieces s) := by
          have h := hsc.out (by omega)
          exact h.fin
        go_wp2_with fail
        refine (rtrim_any (s.extract f s.size) _ HEX.out).mono ?_
        rintro e w2 ⟨rfl, hw2⟩
        have B2 : Below wr.heap.size wr w2 := by rw [hw2]; exact Below.refl _ _
        clear hw2
        have hown2 : Hid (w2.ownsRow w.heap.size 9 1 (.slice ao (keepT ps).length cv) (keepT ps).length ((keepT ps).map Value.string)) := owns_below hown.out B2
        have hB2 := hB.trans (B2.mono hB.size)
        clear hown B2 HEX hsc hfi
        generalize ps ++ [s.extract f s.size] = ps2 at *
        generalize trimT (s.extract f s.size) = x at *
        by_cases hz : x.size = 0
        · have hsn2 : Hid (keepT ps2 = keepT ps) := by rw [Hid, hsn.out, if_pos hz, List.append_nil]
          have he := empty_t hz
          clear hsn
          subst he
          go_wp2
          go_roundw
          case rel => exact ⟨s.size + 1, s.size + 1, ps2, ao, cv, by omega, by omega, by go_num, by go_num, by rw [hsn2.out], by rw [hsn2.out]; omega, by rw [hsn2.out]; exact hown2, HC, (fun _ => HF.out), hB2⟩
          case measure => simp [intOf]
        · have hsn2 : Hid (keepT ps2 = keepT ps ++ [x]) := by rw [Hid, hsn.out, if_neg hz]
          have hne := isEmpty_t hz
          clear hsn hz
          generalize keepT ps = K at *
          go_wp2_with (first
            | (at_builtin; refine wpList_append_own _ rfl _ _ 39 rfl w.heap.size 9 i0 (.string ByteArray.empty) 1 16 Tryz.underlying39 hi hz0 hz1 hz2 rfl (by decide) _ _ _ rfl (hown2.out.alloc _) ⟨w2.heap.size, 0, none⟩ 1 1 [.string x] rfl rfl (cell_one_new _ _ _) (fun x hx => by simp at hx; subst hx; rfl) (by unfold maxLen; omega) (by omega) (by have := hB2.size; simp; omega) ?_; intro v' w3 hown' hgrow3 hnil3))
          go_roundw
          case rel =>
            obtain ⟨g3, cap3, hv3⟩ : ∃ g3 cap3, v' = .slice (some ⟨g3, 0, none⟩) (K.length + 1) cap3 := by
              rcases hown'.2 with ⟨_, h⟩ | ⟨g3, cap3, _, h, _⟩
              · omega
              · exact ⟨g3, cap3, h⟩
            have hb3 : Below w.heap.size w2 w3 := ((Below.refl _ _).alloc hB2.size _).grown hgrow3 (by have := hB2.size; simp; omega) (fun q hq => (hown2.out.lt q hq).1)
            exact ⟨s.size + 1, s.size + 1, ps2, some ⟨g3, 0, none⟩, cap3, by omega, by omega, by go_num, by go_num, by rw [hv3, hsn2.out, List.length_append]; rfl, by rw [hsn2.out, List.length_append]; show _ + 1 ≤ _; omega, by rw [hsn2.out, List.map_append, List.length_append]; exact hown', HC, (fun _ => HF.out), hB2.trans hb3⟩
          case measure => simp [intOf]
      · have hlt : k < s.size := by omega
        have hbe : ((k : Int) == (s.size : Int)) = false := beq_eq_false_iff_ne.2 (by omega)
        by_cases hc : (s[k].toNat : Int) = 44
        · have hc2 : s[k] = 44 := UInt8.toNat_inj.1 (show s[k].toNat = 44 by omega)
          have HC : Hid (k + 1 ≤ s.size → Scan s (ps ++ [s.extract f k]) (k + 1) (k + 1)) := fun _ => (hsc.out (by omega)).cut hlt hc2
          have HF : Hid (k + 1 = s.size + 1 → ps ++ [s.extract f k] = pieces s) := fun h => by omega
          clear hc2
          go_wp2_with fail
          refine (rtrim_any (s.extract f k) _ HEX.out).mono ?_
          rintro e w2 ⟨rfl, hw2⟩
          have B2 : Below wr.heap.size wr w2 := by rw [hw2]; exact Below.refl _ _
          clear hw2
          have hown2 : Hid (w2.ownsRow w.heap.size 9 1 (.slice ao (keepT ps).length cv) (keepT ps).length ((keepT ps).map Value.string)) := owns_below hown.out B2
          have hB2 := hB.trans (B2.mono hB.size)
          clear hown B2 HEX hsc hfi
          generalize ps ++ [s.extract f k] = ps2 at *
          generalize trimT (s.extract f k) = x at *
          by_cases hz : x.size = 0
          · have hsn2 : Hid (keepT ps2 = keepT ps) := by rw [Hid, hsn.out, if_pos hz, List.append_nil]
            have he := empty_t hz
            clear hsn
            subst he
            go_wp2
            go_roundw
            case rel => exact ⟨k + 1, k + 1, ps2, ao, cv, by omega, by omega, by go_num, by go_num, by rw [hsn2.out], by rw [hsn2.out]; omega, by rw [hsn2.out]; exact hown2, HC, HF, hB2⟩
            case measure => simp [intOf]; omega
          · have hsn2 : Hid (keepT ps2 = keepT ps ++ [x]) := by rw [Hid, hsn.out, if_neg hz]
            have hne := isEmpty_t hz
            clear hsn hz
            generalize keepT ps = K at *
            go_wp2_with (first
              | (at_builtin; refine wpList_append_own _ rfl _ _ 39 rfl w.heap.size 9 i0 (.string ByteArray.empty) 1 16 Tryz.underlying39 hi hz0 hz1 hz2 rfl (by decide) _ _ _ rfl (hown2.out.alloc _) ⟨w2.heap.size, 0, none⟩ 1 1 [.string x] rfl rfl (cell_one_new _ _ _) (fun x hx => by simp at hx; subst hx; rfl) (by unfold maxLen; omega) (by omega) (by have := hB2.size; simp; omega) ?_; intro v' w3 hown' hgrow3 hnil3))
            go_roundw
            case rel =>
              obtain ⟨g3, cap3, hv3⟩ : ∃ g3 cap3, v' = .slice (some ⟨g3, 0, none⟩) (K.length + 1) cap3 := by
                rcases hown'.2 with ⟨_, h⟩ | ⟨g3, cap3, _, h, _⟩
                · omega
                · exact ⟨g3, cap3, h⟩
              have hb3 : Below w.heap.size w2 w3 := ((Below.refl _ _).alloc hB2.size _).grown hgrow3 (by have := hB2.size; simp; omega) (fun q hq => (hown2.out.lt q hq).1)
              exact ⟨k + 1, k + 1, ps2, some ⟨g3, 0, none⟩, cap3, by omega, by omega, by go_num, by go_num, by rw [hv3, hsn2.out, List.length_append]; rfl, by rw [hsn2.out, List.length_append]; show _ + 1 ≤ _; omega, by rw [hsn2.out, List.map_append, List.length_append]; exact hown', HC, HF, hB2.trans hb3⟩
            case measure => simp [intOf]; omega
        · have hc2 : s[k] ≠ 44 := fun e => hc (by rw [e]; rfl)
          have hcb : ((s[k].toNat : Int) == 44) = false := beq_eq_false_iff_ne.2 hc
          have HC : Hid (k + 1 ≤ s.size → Scan s ps f (k + 1)) := fun _ => (hsc.out (by omega)).go hlt hc2
          clear hc2
          go_wp2
          go_roundw
          case rel => exact ⟨k + 1, f, ps, ao, cv, by omega, by omega, by go_num, rfl, rfl, by omega, hown, HC, (fun h => by omega), hB⟩
          case measure => simp [intOf]; omega
    · have hke : k = s.size + 1 := by omega
      have HP := hfi.out hke
      subst HP
      go_wp2
      go_ret
      exact ⟨ao, cv, rfl, hown.out, hB⟩
end Go.Proofs.YtkdnckkdofoaoaaGreatDoor

/- What the reference's reading of numbers answers of every text. -/
namespace Go.Proofs.YtkdnckkdofoaoaaGreatDoor
open Go.RowKit
set_option linter.unusedVariables false

def isD (c : Int) : Bool := decide (48 ≤ c) && decide (c ≤ 57)
theorem rdigit_any (c : Int) (w : World) : Calls Tryz.prog 82 #[.int .u8 c] w fun e w' => e = .returned (.bool (isD c)) ∧ w' = w := by
  unfold isD
  by_cases a : 48 ≤ c
  · by_cases b : c ≤ 57
    · go_enter Tryz.func82, Tryz.ntmps82
      go_wp2
      go_ret
      exact ⟨ret_b (by simp [a, b]), rfl⟩
    · go_enter Tryz.func82, Tryz.ntmps82
      go_wp2
      go_ret
      exact ⟨ret_b (by simp [b]), rfl⟩
  · go_enter Tryz.func82, Tryz.ntmps82
    go_wp2
    go_ret
    exact ⟨ret_b (by simp; omega), rfl⟩

end Go.Proofs.YtkdnckkdofoaoaaGreatDoor

/- The reference: what its Decimal answers of every text. -/
namespace Go.Proofs.YtkdnckkdofoaoaaGreatDoor
open Go.RowKit
set_option linter.unusedVariables false

set_option maxHeartbeats 1000000 in
theorem rdecimal_any (s : ByteArray) (w : World) (hs : s.size ≤ maxLen) :
    Calls Tryz.prog 132 #[.string s] w fun e w' => e = .returned (.tuple #[.int .i64 (numI 10 18 s), .bool (numB 10 18 s)]) ∧ w' = w := by
  unfold maxLen at hs
  by_cases hz : (s.size : Int) < 1
  · have E : Hid (numI 10 18 s = 0 ∧ numB 10 18 s = false) := num_out (.inl (by omega))
    go_enter Tryz.func132, Tryz.ntmps132
    go_wp2
    go_ret2
    exact ⟨ret2_ib E.out.1.symm E.out.2.symm, rfl⟩
  · by_cases hm : (18 : Int) < (s.size : Int)
    · have E : Hid (numI 10 18 s = 0 ∧ numB 10 18 s = false) := num_out (.inr (by omega))
      go_enter Tryz.func132, Tryz.ntmps132
      go_wp2
      go_ret2
      exact ⟨ret2_ib E.out.1.symm E.out.2.symm, rfl⟩
    · have hout : Hid (¬ (s.size = 0 ∨ 18 < s.size)) := by rw [Hid]; omega
      go_enter Tryz.func132, Tryz.ntmps132
      go_wp2
      go_loop [4, 5] (fun vn vi => ∃ k n : Nat, k ≤ s.size ∧ vi = .int .i64 k ∧ vn = .int .i64 n ∧ Hid (vN 10 (s.data.toList.take k) = some n)) (fun _ vi => s.size - (intOf vi).toNat)
      case atStart => exact ⟨0, 0, Nat.zero_le _, rfl, rfl, rfl⟩
      case round =>
        obtain ⟨k, n, hk, rfl, rfl, hv⟩ := hrel
        by_cases hlt : k < s.size
        · have bd := byte_bd s[k]
          have hn : n < 100000000000000000 := vN_take_lt 10 17 (by decide) s k (by omega) n hv.out
          have HD : Hid (((dgN s[k] : Nat) : Int) = dgI (s[k].toNat : Int)) := dgN_cast s[k]
          by_cases hb : 48 ≤ (s[k].toNat : Int) ∧ (s[k].toNat : Int) ≤ 57
          · have E1 : Hid (dgI (s[k].toNat : Int) = (s[k].toNat : Int) - 48) := by rw [Hid, dgI, if_pos hb]
            have E : Hid (vN 10 (s.data.toList.take (k + 1)) = some (n * 10 + dgN s[k])) := vN_next 10 s k hlt n hv.out (by have := HD.out; have := E1.out; omega)
            have ED : Hid (isD (s[k].toNat : Int) = true) := by rw [Hid, isD]; simp; omega
            obtain ⟨b0, b1⟩ := hb
            go_wp2_with fail
            refine (rdigit_any _ _).mono ?_
            rw [ED.out]
            rintro e w' ⟨rfl, rfl⟩
            go_wp2
            go_round
            case rel => exact ⟨k + 1, n * 10 + dgN s[k], by omega, by go_num, by have h1 := HD.out; have h2 := E1.out; rw [Int.natCast_add, Int.natCast_mul, h1, h2]; rfl, E⟩
            case measure => simp [intOf]; omega
          · have E : Hid (numI 10 18 s = 0 ∧ numB 10 18 s = false) := num_bad (vN_bad_at 10 s k hlt (by have h1 := HD.out; unfold dgI at h1; rw [if_neg hb] at h1; split at h1 <;> (try split at h1) <;> omega))
            have ED : Hid (isD (s[k].toNat : Int) = false) := by rw [Hid, isD]; simp; omega
            clear hb
            go_wp2_with fail
            refine (rdigit_any _ _).mono ?_
            rw [ED.out]
            rintro e w' ⟨rfl, rfl⟩
            go_wp2
            go_ret2
            exact ⟨ret2_ib E.out.1.symm E.out.2.symm, rfl⟩
        · go_wp2
          go_ret2
          have hk' : k = s.size := by omega
          subst hk'
          have h := hv.out
          rw [List.take_of_length_le (by simp)] at h
          exact ⟨ret2_ib (num_ok hout.out h).1.symm (num_ok hout.out h).2.symm, rfl⟩

end Go.Proofs.YtkdnckkdofoaoaaGreatDoor

/- What the reference's reading of numbers answers of every text. -/
namespace Go.Proofs.YtkdnckkdofoaoaaGreatDoor
open Go.RowKit
set_option linter.unusedVariables false

set_option maxHeartbeats 2000000 in
theorem rhex_any (s : ByteArray) (w : World) (hs : s.size ≤ maxLen) :
    Calls Tryz.prog 147 #[.string s] w fun e w' => e = .returned (.tuple #[.int .i64 (numI 16 15 s), .bool (numB 16 15 s)]) ∧ w' = w := by
  unfold maxLen at hs
  by_cases hz : (s.size : Int) < 1
  · have E : Hid (numI 16 15 s = 0 ∧ numB 16 15 s = false) := num_out (.inl (by omega))
    go_enter Tryz.func147, Tryz.ntmps147
    go_wp2
    go_ret2
    exact ⟨ret2_ib E.out.1.symm E.out.2.symm, rfl⟩
  · by_cases hm : (15 : Int) < (s.size : Int)
    · have E : Hid (numI 16 15 s = 0 ∧ numB 16 15 s = false) := num_out (.inr (by omega))
      go_enter Tryz.func147, Tryz.ntmps147
      go_wp2
      go_ret2
      exact ⟨ret2_ib E.out.1.symm E.out.2.symm, rfl⟩
    · have hout : Hid (¬ (s.size = 0 ∨ 15 < s.size)) := by rw [Hid]; omega
      go_enter Tryz.func147, Tryz.ntmps147
      go_wp2
      go_loop [4, 5] (fun vn vi => ∃ k n : Nat, k ≤ s.size ∧ vi = .int .i64 k ∧ vn = .int .i64 n ∧ Hid (vN 16 (s.data.toList.take k) = some n)) (fun _ vi => s.size - (intOf vi).toNat)
      case atStart => exact ⟨0, 0, Nat.zero_le _, rfl, rfl, rfl⟩
      case round =>
        obtain ⟨k, n, hk, rfl, rfl, hv⟩ := hrel
        by_cases hlt : k < s.size
        · have bd := byte_bd s[k]
          have hn : n < 72057594037927936 := vN_take_lt 16 14 (by decide) s k (by omega) n hv.out
          have HD : Hid (((dgN s[k] : Nat) : Int) = dgI (s[k].toNat : Int)) := dgN_cast s[k]
          by_cases hb : 48 ≤ (s[k].toNat : Int) ∧ (s[k].toNat : Int) ≤ 57
          · have E1 : Hid (dgI (s[k].toNat : Int) = (s[k].toNat : Int) - 48) := by rw [Hid, dgI, if_pos hb]
            have E : Hid (vN 16 (s.data.toList.take (k + 1)) = some (n * 16 + dgN s[k])) := vN_next 16 s k hlt n hv.out (by have := HD.out; have := E1.out; omega)
            have ED : Hid (isD (s[k].toNat : Int) = true) := by rw [Hid, isD]; simp; omega
            obtain ⟨b0, b1⟩ := hb
            go_wp2_with fail
            refine (rdigit_any _ _).mono ?_
            rw [ED.out]
            rintro e w' ⟨rfl, rfl⟩
            go_wp2
            go_round
            case rel => exact ⟨k + 1, n * 16 + dgN s[k], by omega, by go_num, by have h1 := HD.out; have h2 := E1.out; rw [Int.natCast_add, Int.natCast_mul, h1, h2]; rfl, E⟩
            case measure => simp [intOf]; omega
          · have ED : Hid (isD (s[k].toNat : Int) = false) := by rw [Hid, isD]; simp; omega
            by_cases hc : 97 ≤ (s[k].toNat : Int) ∧ (s[k].toNat : Int) ≤ 102
            · have E1 : Hid (dgI (s[k].toNat : Int) = (s[k].toNat : Int) - 97 + 10) := by rw [Hid, dgI, if_neg hb, if_pos hc]; omega
              have E : Hid (vN 16 (s.data.toList.take (k + 1)) = some (n * 16 + dgN s[k])) := vN_next 16 s k hlt n hv.out (by have := HD.out; have := E1.out; omega)
              obtain ⟨b0, b1⟩ := hc
              clear hb
              go_wp2_with fail
              refine (rdigit_any _ _).mono ?_
              rw [ED.out]
              rintro e w' ⟨rfl, rfl⟩
              go_wp2
              go_round
              case rel => exact ⟨k + 1, n * 16 + dgN s[k], by omega, by go_num, by have h1 := HD.out; have h2 := E1.out; rw [Int.natCast_add, Int.natCast_mul, h1, h2]; go_num, E⟩
              case measure => simp [intOf]; omega
            · by_cases hf : 65 ≤ (s[k].toNat : Int) ∧ (s[k].toNat : Int) ≤ 70
              · have E1 : Hid (dgI (s[k].toNat : Int) = (s[k].toNat : Int) - 65 + 10) := by rw [Hid, dgI, if_neg hb, if_neg hc, if_pos hf]; omega
                have E : Hid (vN 16 (s.data.toList.take (k + 1)) = some (n * 16 + dgN s[k])) := vN_next 16 s k hlt n hv.out (by have := HD.out; have := E1.out; omega)
                obtain ⟨b0, b1⟩ := hf
                have c0 : ¬ 97 ≤ (s[k].toNat : Int) := by omega
                clear hb hc
                go_wp2_with fail
                refine (rdigit_any _ _).mono ?_
                rw [ED.out]
                rintro e w' ⟨rfl, rfl⟩
                go_wp2
                go_round
                case rel => exact ⟨k + 1, n * 16 + dgN s[k], by omega, by go_num, by have h1 := HD.out; have h2 := E1.out; rw [Int.natCast_add, Int.natCast_mul, h1, h2]; go_num, E⟩
                case measure => simp [intOf]; omega
              · have E : Hid (numI 16 15 s = 0 ∧ numB 16 15 s = false) := num_bad (vN_bad_at 16 s k hlt (by have h1 := HD.out; unfold dgI at h1; rw [if_neg hb, if_neg hc, if_neg hf] at h1; omega))
                have HB : Hid (¬ (48 ≤ (s[k].toNat : Int) ∧ (s[k].toNat : Int) ≤ 57)) := hb
                clear hb
                by_cases x : 97 ≤ (s[k].toNat : Int)
                · have x2 : ¬ (s[k].toNat : Int) ≤ 102 := by omega
                  have x3 : 65 ≤ (s[k].toNat : Int) := by omega
                  have x4 : ¬ (s[k].toNat : Int) ≤ 70 := by omega
                  clear hc hf
                  go_wp2_with fail
                  refine (rdigit_any _ _).mono ?_
                  rw [ED.out]
                  rintro e w' ⟨rfl, rfl⟩
                  go_wp2
                  go_ret2
                  exact ⟨ret2_ib E.out.1.symm E.out.2.symm, rfl⟩
                · by_cases y : 65 ≤ (s[k].toNat : Int)
                  · have x4 : ¬ (s[k].toNat : Int) ≤ 70 := by omega
                    clear hc hf
                    go_wp2_with fail
                    refine (rdigit_any _ _).mono ?_
                    rw [ED.out]
                    rintro e w' ⟨rfl, rfl⟩
                    go_wp2
                    go_ret2
                    exact ⟨ret2_ib E.out.1.symm E.out.2.symm, rfl⟩
                  · clear hc hf
                    go_wp2_with fail
                    refine (rdigit_any _ _).mono ?_
                    rw [ED.out]
                    rintro e w' ⟨rfl, rfl⟩
                    go_wp2
                    go_ret2
                    exact ⟨ret2_ib E.out.1.symm E.out.2.symm, rfl⟩
        · go_wp2
          go_ret2
          have hk' : k = s.size := by omega
          subst hk'
          have h := hv.out
          rw [List.take_of_length_le (by simp)] at h
          exact ⟨ret2_ib (num_ok hout.out h).1.symm (num_ok hout.out h).2.symm, rfl⟩
end Go.Proofs.YtkdnckkdofoaoaaGreatDoor

/- Cut, of the reference. -/
namespace Go.Proofs.YtkdnckkdofoaoaaGreatDoor
open Go.RowKit
set_option linter.unusedVariables false

set_option maxHeartbeats 4000000 in
theorem rcut_any (b : List UInt8) (kb : Nat) (v : Value) (most : Int) (w : World) (hs : Src w kb v b) :
    Calls Tryz.prog 88 #[v, .int .i64 most] w fun e w' => e = .returned (cutV most.toNat b) ∧ w' = w := by
  obtain ⟨a, c, rfl, h1, h2, h3⟩ := hs
  obtain ⟨n, hn⟩ : ∃ n, n = b.length := ⟨_, rfl⟩
  obtain ⟨m, hm⟩ : ∃ m, m = most.toNat := ⟨_, rfl⟩
  rw [← hm, ← hn]
  rw [← hn] at h1
  unfold maxLen at h2
  have HN : Hid (n = b.length) := hn
  have HM : Hid (m = most.toNat) := hm
  have H3 : Hid (0 < b.length → ∃ off, a = some ⟨kb, off, none⟩ ∧ ∀ (j : Nat) (hj : j < b.length), w.cell? ⟨kb, off + j, none⟩ = some (bv b[j])) := h3
  clear hn hm h3
  have HE : Hid ((most < 0 ∧ m = 0) ∨ (0 ≤ most ∧ most = (m : Int))) := by rw [Hid]; have := HM.out; omega
  by_cases hneg : most < 0
  all_goals
    go_enter Tryz.func88, Tryz.ntmps88
    go_wp2
    go_loop [7] (fun vi => ∃ k : Nat, k ≤ n ∧ vi = .int .i64 k ∧ Hid (cutAt m 0 b = cutAt m k (b.drop k))) (fun vi => n - (intOf vi).toNat)
    case atStart => exact ⟨0, Nat.zero_le _, rfl, rfl⟩
    case round =>
      obtain ⟨k, hk, rfl, hA⟩ := hrel
      by_cases hlt : k < n
      · have hlb : k < b.length := by have := HN.out; omega
        obtain ⟨off, rfl, hc⟩ := H3.out (by omega)
        have q1 : w.cell? ⟨kb, off + k, none⟩ = some (.int .u8 (b[k].toNat : Int)) := hc k hlb
        by_cases t1 : b[k] = 10
        · have HR : Hid (cutV m b = .tuple #[.string ⟨#[]⟩, .int .i64 0, .int .i64 20]) := cutV_miss (hA.out.trans (cutAt_ten hlb t1))
          rw [t1] at q1
          have q2 : w.cell? ⟨kb, off + k, none⟩ = some (.int .u8 10) := q1
          clear q1 hc t1 hlb H3 hA
          go_wp2
          refine bodyPost_ret (v := .tuple #[.string ⟨#[]⟩, .int .i64 0, .int .i64 20]) (by simp [results, Tryz.results88, go_sem]) rfl ⟨?_, rfl⟩
          rw [HR.out]
        · by_cases t2 : b[k] = 13
          · rw [t2] at q1
            have q2 : w.cell? ⟨kb, off + k, none⟩ = some (.int .u8 13) := q1
            clear q1
            by_cases t3 : k + 1 < n
            · have hlb1 : k + 1 < b.length := by have := HN.out; omega
              have q3 : w.cell? ⟨kb, off + (k + 1), none⟩ = some (.int .u8 (b[k + 1].toNat : Int)) := hc (k + 1) hlb1
              have hl : ((k : Int) + 1 == (n : Int)) = false := by simp; omega
              have hl' : ((k : Int) == (n : Int) - 1) = false := by simp; omega
              by_cases t4 : b[k + 1] = 10
              · have HR : Hid (cutV m b = .tuple #[.string ⟨(b.take k).toArray⟩, .int .i64 ((k : Int) + 2), .int .i64 0]) := cutV_hit (hA.out.trans (cutAt_end hlb1 t2 t4))
                rw [t4] at q3
                have q4 : w.cell? ⟨kb, off + (k + 1), none⟩ = some (.int .u8 10) := q3
                have hcv := conv_take (c := c) hc k (by omega)
                clear q3 hc t1 t2 t4 hlb hlb1 H3 hA
                go_wp2
                refine bodyPost_ret (v := .tuple #[.string ⟨(b.take k).toArray⟩, .int .i64 ((k : Int) + 2), .int .i64 0]) (by simp [results, Tryz.results88, go_sem]) rfl ⟨?_, rfl⟩
                rw [HR.out]
              · have HR : Hid (cutV m b = .tuple #[.string ⟨#[]⟩, .int .i64 0, .int .i64 20]) := cutV_miss (hA.out.trans (cutAt_bad hlb1 t2 t4))
                have t5 := toNat_ne 10 10 rfl t4
                have t6 : ¬ ((b[k + 1].toNat : Int) = 10) := t5
                clear t5 hc t1 t2 t4 hlb H3 hA
                generalize (b[k + 1].toNat : Int) = y at *
                have t9 : (y != 10) = true := by simpa using t6
                clear hlb1
                go_wp2
                refine bodyPost_ret (v := .tuple #[.string ⟨#[]⟩, .int .i64 0, .int .i64 20]) (by simp [results, Tryz.results88, go_sem]) rfl ⟨?_, rfl⟩
                rw [HR.out]
            · have HR : Hid (cutV m b = .tuple #[.string ⟨#[]⟩, .int .i64 0, .int .i64 0]) := cutV_miss (hA.out.trans (cutAt_last (by have := HN.out; omega) t2))
              obtain rfl : n = k + 1 := by omega
              clear hc t1 t2 hlb H3 hA
              go_wp2
              refine bodyPost_ret (v := .tuple #[.string ⟨#[]⟩, .int .i64 0, .int .i64 0]) (by simp [results, Tryz.results88, go_sem]) rfl ⟨?_, rfl⟩
              rw [HR.out]
          · have t5 : ¬ ((b[k].toNat : Int) = 10) := toNat_ne 10 10 rfl t1
            have t6 : ¬ ((b[k].toNat : Int) = 13) := toNat_ne 13 13 rfl t2
            by_cases t7 : m ≤ k
            · have HR : Hid (cutV m b = .tuple #[.string ⟨#[]⟩, .int .i64 0, .int .i64 2]) := cutV_miss (hA.out.trans (cutAt_long hlb t1 t2 t7))
              have t8 : most ≤ (k : Int) := by have := HM.out; omega
              clear hc t1 t2 H3 hA
              generalize (b[k].toNat : Int) = y at *
              clear hlb
              go_wp2
              refine bodyPost_ret (v := .tuple #[.string ⟨#[]⟩, .int .i64 0, .int .i64 2]) (by simp [results, Tryz.results88, go_sem]) rfl ⟨?_, rfl⟩
              rw [HR.out]
            · have HX : Hid (cutAt m 0 b = cutAt m (k + 1) (b.drop (k + 1))) := hA.out.trans (cutAt_next hlb t1 t2 t7)
              have t8 : ¬ most ≤ (k : Int) := by have := HM.out; omega
              clear hc t1 t2 H3 hA
              generalize (b[k].toNat : Int) = y at *
              clear hlb
              first
                | (exfalso; have := HE.out; omega)
                | (go_wp2
                   go_round
                   case rel => exact ⟨k + 1, by omega, by go_num, HX⟩
                   case measure => simp [intOf]; omega)
      · have HR : Hid (cutV m b = .tuple #[.string ⟨#[]⟩, .int .i64 0, .int .i64 0]) := cutV_miss (hA.out.trans (cutAt_fin (by have := HN.out; omega)))
        go_wp2
        refine bodyPost_ret (v := .tuple #[.string ⟨#[]⟩, .int .i64 0, .int .i64 0]) (by simp [results, Tryz.results88, go_sem]) rfl ⟨?_, rfl⟩
        rw [HR.out]
end Go.Proofs.YtkdnckkdofoaoaaGreatDoor

/- Join: two lists, one behind the other. -/
namespace Go.Proofs.YtkdnckkdofoaoaaGreatDoor
open Go.RowKit
set_option linter.unusedVariables false

set_option maxRecDepth 100000 in
set_option maxHeartbeats 4000000 in
theorem join_any (X Y : List UInt8) (k1 k2 : Nat) (v1 v2 : Value) (w : World) (h1 : Src w k1 v1 X) (hk1 : 0 < X.length → k1 < w.heap.size) (h2 : Src w k2 v2 Y) (hk2 : 0 < Y.length → k2 < w.heap.size) (hmax : X.length + Y.length ≤ 140737488355328) :
    Calls Tryz.prog 50 #[v1, v2] w fun e w' => ∃ v', e = .returned v' ∧ Own w.heap.size w' v' (X ++ Y) ∧ Below w.heap.size w w' := by
  have HX : Hid (Src w k1 v1 X) := h1
  have HY : Hid (Src w k2 v2 Y) := h2
  obtain ⟨a1, c1, rfl, p1, q1, f1⟩ := h1
  obtain ⟨a2, c2, rfl, p2, q2, f2⟩ := h2
  have F1 : Hid (0 < X.length → ∃ off, a1 = some ⟨k1, off, none⟩ ∧ ∀ (j : Nat) (hj : j < X.length), w.cell? ⟨k1, off + j, none⟩ = some (bv X[j])) := f1
  have F2 : Hid (0 < Y.length → ∃ off, a2 = some ⟨k2, off, none⟩ ∧ ∀ (j : Nat) (hj : j < Y.length), w.cell? ⟨k2, off + j, none⟩ = some (bv Y[j])) := f2
  obtain ⟨n, hn⟩ : ∃ n, n = X.length := ⟨_, rfl⟩
  obtain ⟨m, hm⟩ : ∃ m, m = Y.length := ⟨_, rfl⟩
  rw [← hn, ← hm]
  rw [← hn] at hmax hk1
  rw [← hm] at hmax hk2
  have HN : Hid (n = X.length) := hn
  have HM : Hid (m = Y.length) := hm
  have HK1 : Hid (0 < n → k1 < w.heap.size) := hk1
  have HK2 : Hid (0 < m → k2 < w.heap.size) := hk2
  clear f1 f2 hn hm p1 q1 p2 q2 hk1 hk2 HX HY
  have O0 := Own.empty w.heap.size w (Nat.le_refl _)
  have B0 : Below w.heap.size w (w.alloc (.cells #[] 5)) := (Below.refl _ _).alloc (Nat.le_refl _) _
  go_enter Tryz.func50, Tryz.ntmps50
  go_wp2_with fail
  go_loopw [5, 6] (fun v5 vi wr => ∃ k : Nat, k ≤ n ∧ vi = .int .i64 k ∧ Hid (Own w.heap.size wr v5 (X.take k)) ∧ Below w.heap.size w wr) (fun _ vi _ => n - (intOf vi).toNat)
  case atStart => exact ⟨0, Nat.zero_le _, rfl, (by rw [List.take_zero]; exact O0), B0⟩
  case round =>
    obtain ⟨k, hk, rfl, hO, hB⟩ := hrel
    clear O0 B0
    by_cases hlt : k < n
    · have hlX : k < X.length := by have := HN.out; omega
      obtain ⟨off, rfl, hc⟩ := F1.out (by omega)
      have hcell : wr.cell? ⟨k1, off + k, none⟩ = some (.int .u8 (X[k].toNat : Int)) := (hB.cell (p := ⟨k1, off + k, none⟩) (HK1.out (by omega))).trans (hc k hlX)
      have BA : Below wr.heap.size wr (wr.alloc (.cells #[.int .u8 (X[k].toNat : Int)] 5)) := (Below.refl _ _).alloc (Nat.le_refl _) _
      have hsn : X.take (k + 1) = X.take k ++ [X[k]] := List.take_succ_eq_append_getElem hlX
      obtain ⟨v3, w3, r3, O3, B3⟩ := own_append (hO.out.keep BA) (lit_src wr [X[k]] 1 #[.int .u8 (X[k].toNat : Int)] (0, 0) rfl (by decide) rfl) (fun e => by cases e) (by rw [List.length_take]; show _ + 1 ≤ _; omega) (Nat.le_trans hB.size BA.size)
      rw [← hsn] at O3
      have HO3 : Hid (Own w.heap.size w3 v3 (X.take (k + 1))) := O3
      have C3 := (hB.trans (BA.mono hB.size)).trans B3
      clear O3 B3 BA hsn hc hO
      generalize (X[k].toNat : Int) = z at *
      go_wp2_with (at_builtin; refine wpList_append_run2 rfl _ _ 22 22 rfl _ _ _ w3 rfl rfl r3 ?_)
      go_roundw
      case rel => exact ⟨k + 1, by omega, by go_num, HO3, C3⟩
      case measure => simp [intOf]; omega
    · have hO2 := hO.out
      rw [List.take_of_length_le (by have := HN.out; omega)] at hO2
      have HB1 : Hid (Below w.heap.size w wr) := hB
      clear hO hB
      go_wp2_with fail
      go_loopw [5, 7] (fun v5 vi wx => ∃ j : Nat, j ≤ m ∧ vi = .int .i64 j ∧ Hid (Own w.heap.size wx v5 (X ++ Y.take j)) ∧ Below w.heap.size w wx) (fun _ vi _ => m - (intOf vi).toNat)
      case atStart => exact ⟨0, Nat.zero_le _, rfl, (by rw [List.take_zero, List.append_nil]; exact hO2), HB1.out⟩
      case round =>
        obtain ⟨j, hj, rfl, hO, hB⟩ := hrel
        clear hO2 HB1
        by_cases hjm : j < m
        · have hlY : j < Y.length := by have := HM.out; omega
          obtain ⟨off, rfl, hc⟩ := F2.out (by omega)
          have hcell := (hB.cell (p := ⟨k2, off + j, none⟩) (HK2.out (by omega))).trans (hc j hlY)
          have BA := fun W : World => (Below.refl W.heap.size W).alloc (Nat.le_refl _) (.cells #[.int .u8 (Y[j].toNat : Int)] 5)
          have hsn : Y.take (j + 1) = Y.take j ++ [Y[j]] := List.take_succ_eq_append_getElem hlY
          obtain ⟨v3, w3, r3, O3, B3⟩ := own_append (hO.out.keep (BA _)) (lit_src _ [Y[j]] 1 #[.int .u8 (Y[j].toNat : Int)] (0, 0) rfl (by decide) rfl) (fun e => by cases e) (by rw [List.length_append, List.length_take]; have := HN.out; show _ + 1 ≤ _; omega) (Nat.le_trans hB.size (BA _).size)
          rw [List.append_assoc, ← hsn] at O3
          have HO3 : Hid (Own w.heap.size w3 v3 (X ++ Y.take (j + 1))) := O3
          have C3 := (hB.trans ((BA _).mono hB.size)).trans B3
          clear O3 B3 BA hsn hc hO
          unfold bv at hcell
          generalize (Y[j].toNat : Int) = z at *
          go_wp2_with (at_builtin; refine wpList_append_run2 rfl _ _ 22 22 rfl _ _ _ w3 rfl rfl r3 ?_)
          go_roundw
          case rel => exact ⟨j + 1, by omega, by go_num, HO3, C3⟩
          case measure => simp [intOf]; omega
        · have h := hO.out
          rw [List.take_of_length_le (by have := HM.out; omega)] at h
          clear hO
          go_wp2
          go_ret
          exact ⟨_, rfl, h, hB⟩
end Go.Proofs.YtkdnckkdofoaoaaGreatDoor
