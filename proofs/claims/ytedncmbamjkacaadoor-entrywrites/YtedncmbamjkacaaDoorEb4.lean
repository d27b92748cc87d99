/- Texts that the proof leans on, one behind the other: RDgA ByAl SgnC SgnD RtgA Va Vb Vc -/
import Derived.Test.YtedncmbamjkacaaDoorEa2
import Derived.Test.YtedncmbamjkacaaDoorEa3
import Derived.Deep.RegionHeld3
/- The reference's Digit. -/
namespace Go.Proofs.YtedncmbamjkacaaDoor
open Go.RowKit
set_option linter.unusedVariables false

theorem rdig_any (c : Int) (w : World) : Calls Tryd.prog 55 #[.int .u8 c] w fun e w' => e = .returned (.bool (spanP 48 57 c)) ∧ w' = w := by
  unfold spanP
  by_cases a : 48 ≤ c
  · by_cases b : c ≤ 57
    · go_enter Tryd.func55, Tryd.ntmps55
      go_wp2
      go_ret
      exact ⟨ret_b (by simp [a, b]), rfl⟩
    · go_enter Tryd.func55, Tryd.ntmps55
      go_wp2
      go_ret
      exact ⟨ret_b (by simp [b]), rfl⟩
  · go_enter Tryd.func55, Tryd.ntmps55
    go_wp2
    go_ret
    exact ⟨ret_b (by simp; omega), rfl⟩

end Go.Proofs.YtedncmbamjkacaaDoor

/- All bytes, one by one. -/
namespace Go.Proofs.YtedncmbamjkacaaDoor
open Go.RowKit
set_option linter.unusedVariables false

theorem byte_all {P : Int → Prop} (h : ∀ n : Nat, n < 256 → P (n : Int)) (c : Int) (h0 : 0 ≤ c) (h1 : c < 256) : P c := by
  obtain ⟨n, rfl⟩ := Int.eq_ofNat_of_zero_le h0
  exact h n (by omega)
end Go.Proofs.YtedncmbamjkacaaDoor

/- The reference's Token, Value and Target: what each answers of every text. -/
namespace Go.Proofs.YtedncmbamjkacaaDoor
open Go.RowKit
set_option linter.unusedVariables false

def letP (c : Int) : Bool := spanP 97 122 c || spanP 65 90 c
def tokL : List Int := [33, 35, 36, 37, 38, 39, 42, 43, 45, 46, 94, 95, 96, 124, 126]
theorem tok_iff (c : Int) (h0 : 0 ≤ c) (h1 : c < 256) : tokP c = (tokL.any (fun x => c == x) || (letP c || spanP 48 57 c)) :=
  byte_all (P := fun c => tokP c = (tokL.any (fun x => c == x) || (letP c || spanP 48 57 c))) (by decide +kernel) c h0 h1

theorem letter_any (c : Int) (w : World) : Calls Tryd.prog 54 #[.int .u8 c] w fun e w' => e = .returned (.bool (letP c)) ∧ w' = w := by
  unfold letP spanP
  by_cases a : 97 ≤ c
  · by_cases b : c ≤ 122
    · go_enter Tryd.func54, Tryd.ntmps54
      go_wp2
      go_ret
      exact ⟨ret_b (by simp [a, b]), rfl⟩
    · have d : ¬ c ≤ 90 := by omega
      have f : 65 ≤ c := by omega
      go_enter Tryd.func54, Tryd.ntmps54
      go_wp2
      go_ret
      exact ⟨ret_b (by simp [b, d]), rfl⟩
  · by_cases f : 65 ≤ c
    · by_cases d : c ≤ 90
      · go_enter Tryd.func54, Tryd.ntmps54
        go_wp2
        go_ret
        exact ⟨ret_b (by simp), rfl⟩
      · go_enter Tryd.func54, Tryd.ntmps54
        go_wp2
        go_ret
        exact ⟨ret_b (by simp [d]; omega), rfl⟩
    · go_enter Tryd.func54, Tryd.ntmps54
      go_wp2
      go_ret
      exact ⟨ret_b (by simp; omega), rfl⟩

set_option maxHeartbeats 4000000 in
theorem tokenByte_any (c : Int) (w : World) (h0 : 0 ≤ c) (h1 : c < 256) : Calls Tryd.prog 37 #[.int .u8 c] w fun e w' => e = .returned (.bool (tokP c)) ∧ w' = w := by
  by_cases k0 : c = 33
  · subst k0
    go_enter Tryd.func37, Tryd.ntmps37
    go_wp2
    go_ret
    exact ⟨ret_b (by decide +kernel), rfl⟩
  by_cases k1 : c = 35
  · subst k1
    go_enter Tryd.func37, Tryd.ntmps37
    go_wp2
    go_ret
    exact ⟨ret_b (by decide +kernel), rfl⟩
  by_cases k2 : c = 36
  · subst k2
    go_enter Tryd.func37, Tryd.ntmps37
    go_wp2
    go_ret
    exact ⟨ret_b (by decide +kernel), rfl⟩
  by_cases k3 : c = 37
  · subst k3
    go_enter Tryd.func37, Tryd.ntmps37
    go_wp2
    go_ret
    exact ⟨ret_b (by decide +kernel), rfl⟩
  by_cases k4 : c = 38
  · subst k4
    go_enter Tryd.func37, Tryd.ntmps37
    go_wp2
    go_ret
    exact ⟨ret_b (by decide +kernel), rfl⟩
  by_cases k5 : c = 39
  · subst k5
    go_enter Tryd.func37, Tryd.ntmps37
    go_wp2
    go_ret
    exact ⟨ret_b (by decide +kernel), rfl⟩
  by_cases k6 : c = 42
  · subst k6
    go_enter Tryd.func37, Tryd.ntmps37
    go_wp2
    go_ret
    exact ⟨ret_b (by decide +kernel), rfl⟩
  by_cases k7 : c = 43
  · subst k7
    go_enter Tryd.func37, Tryd.ntmps37
    go_wp2
    go_ret
    exact ⟨ret_b (by decide +kernel), rfl⟩
  by_cases k8 : c = 45
  · subst k8
    go_enter Tryd.func37, Tryd.ntmps37
    go_wp2
    go_ret
    exact ⟨ret_b (by decide +kernel), rfl⟩
  by_cases k9 : c = 46
  · subst k9
    go_enter Tryd.func37, Tryd.ntmps37
    go_wp2
    go_ret
    exact ⟨ret_b (by decide +kernel), rfl⟩
  by_cases k10 : c = 94
  · subst k10
    go_enter Tryd.func37, Tryd.ntmps37
    go_wp2
    go_ret
    exact ⟨ret_b (by decide +kernel), rfl⟩
  by_cases k11 : c = 95
  · subst k11
    go_enter Tryd.func37, Tryd.ntmps37
    go_wp2
    go_ret
    exact ⟨ret_b (by decide +kernel), rfl⟩
  by_cases k12 : c = 96
  · subst k12
    go_enter Tryd.func37, Tryd.ntmps37
    go_wp2
    go_ret
    exact ⟨ret_b (by decide +kernel), rfl⟩
  by_cases k13 : c = 124
  · subst k13
    go_enter Tryd.func37, Tryd.ntmps37
    go_wp2
    go_ret
    exact ⟨ret_b (by decide +kernel), rfl⟩
  by_cases k14 : c = 126
  · subst k14
    go_enter Tryd.func37, Tryd.ntmps37
    go_wp2
    go_ret
    exact ⟨ret_b (by decide +kernel), rfl⟩
  have E : Hid (tokP c = (letP c || spanP 48 57 c)) := by rw [Hid, tok_iff c h0 h1]; simp [tokL, k0, k1, k2, k3, k4, k5, k6, k7, k8, k9, k10, k11, k12, k13, k14]
  have m0 : (c == 33) = false := beq_eq_false_iff_ne.2 k0
  have m1 : (c == 35) = false := beq_eq_false_iff_ne.2 k1
  have m2 : (c == 36) = false := beq_eq_false_iff_ne.2 k2
  have m3 : (c == 37) = false := beq_eq_false_iff_ne.2 k3
  have m4 : (c == 38) = false := beq_eq_false_iff_ne.2 k4
  have m5 : (c == 39) = false := beq_eq_false_iff_ne.2 k5
  have m6 : (c == 42) = false := beq_eq_false_iff_ne.2 k6
  have m7 : (c == 43) = false := beq_eq_false_iff_ne.2 k7
  have m8 : (c == 45) = false := beq_eq_false_iff_ne.2 k8
  have m9 : (c == 46) = false := beq_eq_false_iff_ne.2 k9
  have m10 : (c == 94) = false := beq_eq_false_iff_ne.2 k10
  have m11 : (c == 95) = false := beq_eq_false_iff_ne.2 k11
  have m12 : (c == 96) = false := beq_eq_false_iff_ne.2 k12
  have m13 : (c == 124) = false := beq_eq_false_iff_ne.2 k13
  have m14 : (c == 126) = false := beq_eq_false_iff_ne.2 k14
  rw [E.out]
  clear E k0 k1 k2 k3 k4 k5 k6 k7 k8 k9 k10 k11 k12 k13 k14
  cases hl : letP c
  · have HL : Hid (letP c = false) := hl
    clear hl
    go_enter Tryd.func37, Tryd.ntmps37
    go_wp2_with fail
    refine (letter_any c _).mono ?_
    rw [HL.out]
    rintro e w1 ⟨rfl, rfl⟩
    go_wp2_with fail
    refine (rdig_any c _).mono ?_
    rintro e w1 ⟨rfl, rfl⟩
    go_wp2
    go_ret
    exact ⟨ret_b (by simp), rfl⟩
  · have HL : Hid (letP c = true) := hl
    clear hl
    go_enter Tryd.func37, Tryd.ntmps37
    go_wp2_with fail
    refine (letter_any c _).mono ?_
    rw [HL.out]
    rintro e w1 ⟨rfl, rfl⟩
    go_wp2
    go_ret
    exact ⟨ret_b (by simp), rfl⟩
end Go.Proofs.YtedncmbamjkacaaDoor

/- The reference's loops; then Token, Value and Target themselves. -/
namespace Go.Proofs.YtedncmbamjkacaaDoor
open Go.RowKit
set_option linter.unusedVariables false

set_option maxHeartbeats 1000000 in
theorem rToken_any (s : ByteArray) (w : World) (hs : s.size ≤ maxLen) :
    Calls Tryd.prog 22 #[.string s] w fun e w' => e = .returned (.bool (allB tokP s.data.toList && decide (0 < s.size))) ∧ w' = w := by
  unfold maxLen at hs
  go_enter Tryd.func22, Tryd.ntmps22
  go_wp2
  go_loop [3] (fun i => ∃ k : Nat, k ≤ s.size ∧ i = .int .i64 k ∧ Hid (allB tokP (s.data.toList.take k) = true)) (fun i => s.size - (intOf i).toNat)
  case atStart => exact ⟨0, Nat.zero_le _, rfl, rfl⟩
  case round =>
    obtain ⟨k, hk, rfl, hA⟩ := hrel
    by_cases hlt : k < s.size
    · have bd := byte_bd s[k]
      go_wp2_with fail
      refine (tokenByte_any _ _ bd.1 bd.2).mono ?_
      rintro e w' ⟨rfl, rfl⟩
      cases hpc : tokP (s[k].toNat : Int)
      · have HC : Hid (tokP (s[k].toNat : Int) = false) := hpc
        clear hpc
        go_wp2
        go_ret
        exact ⟨ret_b (by rw [allB_false s k hlt HC.out]; rfl), rfl⟩
      · have HC : Hid (tokP (s[k].toNat : Int) = true) := hpc
        clear hpc
        go_wp2
        go_round
        case rel => exact ⟨k + 1, by omega, by go_num, allB_snoc s k hlt hA.out HC.out⟩
        case measure => simp [intOf]; omega
    · go_wp2
      go_ret
      have hk' : k = s.size := by omega
      subst hk'
      exact ⟨ret_b (by have h := hA.out; rw [List.take_of_length_le (by simp)] at h; rw [h]; simp), rfl⟩


end Go.Proofs.YtedncmbamjkacaaDoor

/- The reference's Target. -/
namespace Go.Proofs.YtedncmbamjkacaaDoor
open Go.RowKit
set_option linter.unusedVariables false

theorem tg_yes {c : Int} (h1 : ¬ c ≤ 32) (h2 : ¬ 127 ≤ c) : spanP 33 126 c = true := by unfold spanP; simp; omega
theorem tg_lo {c : Int} (h1 : c ≤ 32) : spanP 33 126 c = false := by unfold spanP; simp; omega
theorem tg_hi {c : Int} (h1 : 127 ≤ c) : spanP 33 126 c = false := by unfold spanP; simp; omega

set_option maxHeartbeats 1000000 in
theorem rtarget_any (s : ByteArray) (w : World) (hs : s.size ≤ maxLen) :
    Calls Tryd.prog 23 #[.string s] w fun e w' => e = .returned (.bool (tgtP s)) ∧ w' = w := by
  unfold maxLen at hs
  unfold tgtP
  go_enter Tryd.func23, Tryd.ntmps23
  go_wp2
  go_loop [3] (fun i => ∃ k : Nat, k ≤ s.size ∧ i = .int .i64 k ∧ Hid (allB (spanP 33 126) (s.data.toList.take k) = true)) (fun i => s.size - (intOf i).toNat)
  case atStart => exact ⟨0, Nat.zero_le _, rfl, rfl⟩
  case round =>
    obtain ⟨k, hk, rfl, hA⟩ := hrel
    by_cases hlt : k < s.size
    · by_cases a : (s[k].toNat : Int) ≤ 32
      · have HC := allB_false (p := spanP 33 126) s k hlt (tg_lo a)
        go_wp2
        go_ret
        exact ⟨ret_b (by simp), rfl⟩
      · have a' : decide ((s[k].toNat : Int) ≤ 32) = false := by simp; omega
        by_cases b : 127 ≤ (s[k].toNat : Int)
        · have HC := allB_false (p := spanP 33 126) s k hlt (tg_hi b)
          clear a
          go_wp2
          go_ret
          exact ⟨ret_b (by simp), rfl⟩
        · have b' : decide (127 ≤ (s[k].toNat : Int)) = false := by simp; omega
          have HC : Hid (allB (spanP 33 126) (s.data.toList.take (k + 1)) = true) := allB_snoc s k hlt hA.out (tg_yes a b)
          clear a b
          go_wp2
          go_round
          case rel => exact ⟨k + 1, by omega, by go_num, HC⟩
          case measure => simp [intOf]; omega
    · have hk' : k = s.size := by omega
      subst hk'
      have h := hA.out
      rw [List.take_of_length_le (show s.data.toList.length ≤ s.size from Nat.le_refl _)] at h
      rcases Nat.eq_zero_or_pos s.size with h0 | h0
      · have h0' : decide ((0 : Int) < (s.size : Int)) = false := decide_eq_false (by omega)
        go_wp2
        go_ret
        exact ⟨ret_b (by first | (simp; done) | (simp; omega)), rfl⟩
      · have h0' : decide ((0 : Int) < (s.size : Int)) = true := decide_eq_true (by omega)
        go_wp2
        go_ret
        exact ⟨ret_b (by first | (simp; done) | (simp; omega)), rfl⟩

end Go.Proofs.YtedncmbamjkacaaDoor

/- The document's records: within, Right. -/
namespace Go.Proofs.YtedncmbamjkacaaDoor
open Go.RowKit
set_option linter.unusedVariables false

theorem hidV {p : Prop} (h : p) : Hid p := h
set_option maxHeartbeats 400000 in
theorem r13within_any (z lo hi : Int) (w : World) : Calls Tryd.prog 21 #[.int .i64 z, .int .i64 lo, .int .i64 hi] w fun e w' => e = .returned (.bool (inB z lo hi)) ∧ w' = w := by
  by_cases h1 : lo ≤ z
  · by_cases h2 : z ≤ hi
    · rw [inB_in h1 h2]
      have e1 : decide (lo ≤ z) = true := decide_eq_true h1
      have e2 : decide (z ≤ hi) = true := decide_eq_true h2
      clear h1 h2
      go_enter Tryd.func21, Tryd.ntmps21
      go_wp2
      go_ret
      exact ⟨rfl, rfl⟩
    · rw [inB_hi (by omega)]
      have e1 : decide (lo ≤ z) = true := decide_eq_true h1
      have e2 : decide (z ≤ hi) = false := decide_eq_false h2
      clear h1 h2
      go_enter Tryd.func21, Tryd.ntmps21
      go_wp2
      go_ret
      exact ⟨rfl, rfl⟩
  · rw [inB_lo (by omega)]
    have e1 : decide (lo ≤ z) = false := decide_eq_false h1
    clear h1
    go_enter Tryd.func21, Tryd.ntmps21
    go_wp2
    go_ret
    exact ⟨rfl, rfl⟩
/-- The document's order of the conditions is another one. -/
theorem right_iff13 (e : EntP) : rightE e = (inB e.q 1 1125899906842624 && (inB e.a 0 1125899906842624 && (inB e.k 0 1125899906842624 && (inB e.u 0 1125899906842624 && (inB e.d 0 1125899906842624 && (decide (1 ≤ e.n) && (decide (e.n ≤ 2147483647) && (decide (0 ≤ e.c) && (decide (e.c ≤ 999) && (tokS e.m && (decide (e.m.size ≤ 20) && (tgtP e.t && decide (e.t.size ≤ 512))))))))))))) := by
  unfold rightE withinP
  generalize inB e.q 1 1125899906842624 = b1
  generalize inB e.a 0 1125899906842624 = b2
  generalize inB e.k 0 1125899906842624 = b3
  generalize inB e.u 0 1125899906842624 = b4
  generalize inB e.d 0 1125899906842624 = b5
  unfold inB
  generalize decide (1 ≤ e.n) = b6
  generalize decide (e.n ≤ 2147483647) = b7
  generalize decide (0 ≤ e.c) = b8
  generalize decide (e.c ≤ 999) = b9
  generalize tokS e.m = c1
  generalize decide (e.m.size ≤ 20) = c2
  generalize tgtP e.t = c3
  generalize decide (e.t.size ≤ 512) = c4
  cases b1 <;> cases b2 <;> cases b3 <;> cases b4 <;> cases b5 <;> cases b6 <;> cases b7 <;> cases b8 <;> cases b9 <;> cases c1 <;> cases c2 <;> cases c3 <;> cases c4 <;> rfl
set_option maxRecDepth 100000 in
set_option maxHeartbeats 4000000 in
theorem r13right_any (e : EntP) (w : World) (hm : e.m.size ≤ maxLen) (ht : e.t.size ≤ maxLen) : Calls Tryd.prog 8 #[.agg (entV e)] w fun r w' => r = .returned (.bool (rightE e)) ∧ Below w.heap.size w w' := by
  have HW : Hid (∀ z lo hi W, Calls Tryd.prog 21 #[.int .i64 z, .int .i64 lo, .int .i64 hi] W fun e w' => e = .returned (.bool (inB z lo hi)) ∧ w' = W) := fun z lo hi W => r13within_any z lo hi W
  have HT : Hid (∀ W, Calls Tryd.prog 22 #[.string e.m] W fun r w' => r = .returned (.bool (tokS e.m)) ∧ w' = W) := fun W => rToken_any e.m W hm
  have HG : Hid (∀ W, Calls Tryd.prog 23 #[.string e.t] W fun r w' => r = .returned (.bool (tgtP e.t)) ∧ w' = W) := fun W => rtarget_any e.t W ht
  have HR : Hid (rightE e = _) := right_iff13 e
  have BA : Hid (Below w.heap.size w (w.alloc (.cells (entV e) 23))) := (Below.refl _ _).alloc (Nat.le_refl _) _
  have NA := tblk_new w (.cells (entV e) 23)
  have wlt : w.heap.size < (w.alloc (.cells (entV e) 23)).heap.size := by simp
  generalize rightE e = R at *
  generalize tokS e.m = tk at *
  generalize tgtP e.t = tg at *
  obtain ⟨q, a, k, n, m, t, c, u, d⟩ := e
  unfold entV at *
  simp only at *
  unfold maxLen at hm ht
  have h20 : decide ((m.size : Int) ≤ 20) = decide (m.size ≤ 20) := by by_cases h : m.size ≤ 20 <;> simp [h] <;> omega
  have h512 : decide ((t.size : Int) ≤ 512) = decide (t.size ≤ 512) := by by_cases h : t.size ≤ 512 <;> simp [h] <;> omega
  have g1 : decide (n < 1) = !decide (1 ≤ n) := by by_cases h : 1 ≤ n <;> simp [h] <;> omega
  have g2 : decide (2147483647 < n) = !decide (n ≤ 2147483647) := by by_cases h : n ≤ 2147483647 <;> simp [h] <;> omega
  have g3 : decide (c < 0) = !decide (0 ≤ c) := by by_cases h : 0 ≤ c <;> simp [h] <;> omega
  have g4 : decide (999 < c) = !decide (c ≤ 999) := by by_cases h : c ≤ 999 <;> simp [h] <;> omega
  generalize decide (m.size ≤ 20) = b20 at *
  generalize decide (t.size ≤ 512) = b512 at *
  generalize decide (1 ≤ n) = n1 at *
  generalize decide (n ≤ 2147483647) = n2 at *
  generalize decide (0 ≤ c) = n3 at *
  generalize decide (c ≤ 999) = n4 at *
  have W1 := hidV (HW.out q 1 1125899906842624)
  have W2 := hidV (HW.out a 0 1125899906842624)
  have W3 := hidV (HW.out k 0 1125899906842624)
  have W4 := hidV (HW.out u 0 1125899906842624)
  have W5 := hidV (HW.out d 0 1125899906842624)
  generalize inB q 1 1125899906842624 = b1 at *
  generalize inB a 0 1125899906842624 = b2 at *
  generalize inB k 0 1125899906842624 = b3 at *
  generalize inB u 0 1125899906842624 = b4 at *
  generalize inB d 0 1125899906842624 = b5 at *
  have c0 : (w.alloc (.cells #[.int .i64 q, .int .i64 a, .int .i64 k, .int .i64 n, .string m, .string t, .int .i64 c, .int .i64 u, .int .i64 d] 23)).cell? ⟨w.heap.size, 0, none⟩ = some (.int .i64 q) := tblk_cell NA rfl
  clear NA HW hm ht c0
  have W6 : Hid (∀ W, Calls Tryd.prog 22 #[.string m] W fun r w' => r = .returned (.bool tk) ∧ w' = W) := HT
  have W7 : Hid (∀ W, Calls Tryd.prog 23 #[.string t] W fun r w' => r = .returned (.bool tg) ∧ w' = W) := HG
  clear HT HG
  go_enter Tryd.func8, Tryd.ntmps8
  cases b1 with
  | false =>
    have hF : Hid (false = R) := by rw [Hid, HR.out]; rfl
    clear HR
    go_wp2_with (first | (go_at_call 21; refine (W1.out _).mono ?_; rintro e w5 ⟨rfl, rfl⟩; dsimp only; clear W1) | (go_at_call 21; refine (W2.out _).mono ?_; rintro e w5 ⟨rfl, rfl⟩; dsimp only; clear W2) | (go_at_call 21; refine (W3.out _).mono ?_; rintro e w5 ⟨rfl, rfl⟩; dsimp only; clear W3) | (go_at_call 21; refine (W4.out _).mono ?_; rintro e w5 ⟨rfl, rfl⟩; dsimp only; clear W4) | (go_at_call 21; refine (W5.out _).mono ?_; rintro e w5 ⟨rfl, rfl⟩; dsimp only; clear W5) | (go_at_call 22; refine (W6.out _).mono ?_; rintro e w5 ⟨rfl, rfl⟩; dsimp only; clear W6) | (go_at_call 23; refine (W7.out _).mono ?_; rintro e w5 ⟨rfl, rfl⟩; dsimp only; clear W7))
    go_ret
    exact ⟨ret_b hF.out, BA.out⟩
  | true =>
    cases b2 with
    | false =>
      have hF : Hid (false = R) := by rw [Hid, HR.out]; rfl
      clear HR
      go_wp2_with (first | (go_at_call 21; refine (W1.out _).mono ?_; rintro e w5 ⟨rfl, rfl⟩; dsimp only; clear W1) | (go_at_call 21; refine (W2.out _).mono ?_; rintro e w5 ⟨rfl, rfl⟩; dsimp only; clear W2) | (go_at_call 21; refine (W3.out _).mono ?_; rintro e w5 ⟨rfl, rfl⟩; dsimp only; clear W3) | (go_at_call 21; refine (W4.out _).mono ?_; rintro e w5 ⟨rfl, rfl⟩; dsimp only; clear W4) | (go_at_call 21; refine (W5.out _).mono ?_; rintro e w5 ⟨rfl, rfl⟩; dsimp only; clear W5) | (go_at_call 22; refine (W6.out _).mono ?_; rintro e w5 ⟨rfl, rfl⟩; dsimp only; clear W6) | (go_at_call 23; refine (W7.out _).mono ?_; rintro e w5 ⟨rfl, rfl⟩; dsimp only; clear W7))
      go_ret
      exact ⟨ret_b hF.out, BA.out⟩
    | true =>
      cases b3 with
      | false =>
        have hF : Hid (false = R) := by rw [Hid, HR.out]; rfl
        clear HR
        go_wp2_with (first | (go_at_call 21; refine (W1.out _).mono ?_; rintro e w5 ⟨rfl, rfl⟩; dsimp only; clear W1) | (go_at_call 21; refine (W2.out _).mono ?_; rintro e w5 ⟨rfl, rfl⟩; dsimp only; clear W2) | (go_at_call 21; refine (W3.out _).mono ?_; rintro e w5 ⟨rfl, rfl⟩; dsimp only; clear W3) | (go_at_call 21; refine (W4.out _).mono ?_; rintro e w5 ⟨rfl, rfl⟩; dsimp only; clear W4) | (go_at_call 21; refine (W5.out _).mono ?_; rintro e w5 ⟨rfl, rfl⟩; dsimp only; clear W5) | (go_at_call 22; refine (W6.out _).mono ?_; rintro e w5 ⟨rfl, rfl⟩; dsimp only; clear W6) | (go_at_call 23; refine (W7.out _).mono ?_; rintro e w5 ⟨rfl, rfl⟩; dsimp only; clear W7))
        go_ret
        exact ⟨ret_b hF.out, BA.out⟩
      | true =>
        cases b4 with
        | false =>
          have hF : Hid (false = R) := by rw [Hid, HR.out]; rfl
          clear HR
          go_wp2_with (first | (go_at_call 21; refine (W1.out _).mono ?_; rintro e w5 ⟨rfl, rfl⟩; dsimp only; clear W1) | (go_at_call 21; refine (W2.out _).mono ?_; rintro e w5 ⟨rfl, rfl⟩; dsimp only; clear W2) | (go_at_call 21; refine (W3.out _).mono ?_; rintro e w5 ⟨rfl, rfl⟩; dsimp only; clear W3) | (go_at_call 21; refine (W4.out _).mono ?_; rintro e w5 ⟨rfl, rfl⟩; dsimp only; clear W4) | (go_at_call 21; refine (W5.out _).mono ?_; rintro e w5 ⟨rfl, rfl⟩; dsimp only; clear W5) | (go_at_call 22; refine (W6.out _).mono ?_; rintro e w5 ⟨rfl, rfl⟩; dsimp only; clear W6) | (go_at_call 23; refine (W7.out _).mono ?_; rintro e w5 ⟨rfl, rfl⟩; dsimp only; clear W7))
          go_ret
          exact ⟨ret_b hF.out, BA.out⟩
        | true =>
          cases b5 with
          | false =>
            have hF : Hid (false = R) := by rw [Hid, HR.out]; rfl
            clear HR
            go_wp2_with (first | (go_at_call 21; refine (W1.out _).mono ?_; rintro e w5 ⟨rfl, rfl⟩; dsimp only; clear W1) | (go_at_call 21; refine (W2.out _).mono ?_; rintro e w5 ⟨rfl, rfl⟩; dsimp only; clear W2) | (go_at_call 21; refine (W3.out _).mono ?_; rintro e w5 ⟨rfl, rfl⟩; dsimp only; clear W3) | (go_at_call 21; refine (W4.out _).mono ?_; rintro e w5 ⟨rfl, rfl⟩; dsimp only; clear W4) | (go_at_call 21; refine (W5.out _).mono ?_; rintro e w5 ⟨rfl, rfl⟩; dsimp only; clear W5) | (go_at_call 22; refine (W6.out _).mono ?_; rintro e w5 ⟨rfl, rfl⟩; dsimp only; clear W6) | (go_at_call 23; refine (W7.out _).mono ?_; rintro e w5 ⟨rfl, rfl⟩; dsimp only; clear W7))
            go_ret
            exact ⟨ret_b hF.out, BA.out⟩
          | true =>
            cases n1 with
            | false =>
              rw [Bool.not_false] at g1
              have hF : Hid (false = R) := by rw [Hid, HR.out]; rfl
              clear HR
              go_wp2_with (first | (go_at_call 21; refine (W1.out _).mono ?_; rintro e w5 ⟨rfl, rfl⟩; dsimp only; clear W1) | (go_at_call 21; refine (W2.out _).mono ?_; rintro e w5 ⟨rfl, rfl⟩; dsimp only; clear W2) | (go_at_call 21; refine (W3.out _).mono ?_; rintro e w5 ⟨rfl, rfl⟩; dsimp only; clear W3) | (go_at_call 21; refine (W4.out _).mono ?_; rintro e w5 ⟨rfl, rfl⟩; dsimp only; clear W4) | (go_at_call 21; refine (W5.out _).mono ?_; rintro e w5 ⟨rfl, rfl⟩; dsimp only; clear W5) | (go_at_call 22; refine (W6.out _).mono ?_; rintro e w5 ⟨rfl, rfl⟩; dsimp only; clear W6) | (go_at_call 23; refine (W7.out _).mono ?_; rintro e w5 ⟨rfl, rfl⟩; dsimp only; clear W7))
              go_ret
              exact ⟨ret_b hF.out, BA.out⟩
            | true =>
              rw [Bool.not_true] at g1
              cases n2 with
              | false =>
                rw [Bool.not_false] at g2
                have hF : Hid (false = R) := by rw [Hid, HR.out]; rfl
                clear HR
                go_wp2_with (first | (go_at_call 21; refine (W1.out _).mono ?_; rintro e w5 ⟨rfl, rfl⟩; dsimp only; clear W1) | (go_at_call 21; refine (W2.out _).mono ?_; rintro e w5 ⟨rfl, rfl⟩; dsimp only; clear W2) | (go_at_call 21; refine (W3.out _).mono ?_; rintro e w5 ⟨rfl, rfl⟩; dsimp only; clear W3) | (go_at_call 21; refine (W4.out _).mono ?_; rintro e w5 ⟨rfl, rfl⟩; dsimp only; clear W4) | (go_at_call 21; refine (W5.out _).mono ?_; rintro e w5 ⟨rfl, rfl⟩; dsimp only; clear W5) | (go_at_call 22; refine (W6.out _).mono ?_; rintro e w5 ⟨rfl, rfl⟩; dsimp only; clear W6) | (go_at_call 23; refine (W7.out _).mono ?_; rintro e w5 ⟨rfl, rfl⟩; dsimp only; clear W7))
                go_ret
                exact ⟨ret_b hF.out, BA.out⟩
              | true =>
                rw [Bool.not_true] at g2
                cases n3 with
                | false =>
                  rw [Bool.not_false] at g3
                  have hF : Hid (false = R) := by rw [Hid, HR.out]; rfl
                  clear HR
                  go_wp2_with (first | (go_at_call 21; refine (W1.out _).mono ?_; rintro e w5 ⟨rfl, rfl⟩; dsimp only; clear W1) | (go_at_call 21; refine (W2.out _).mono ?_; rintro e w5 ⟨rfl, rfl⟩; dsimp only; clear W2) | (go_at_call 21; refine (W3.out _).mono ?_; rintro e w5 ⟨rfl, rfl⟩; dsimp only; clear W3) | (go_at_call 21; refine (W4.out _).mono ?_; rintro e w5 ⟨rfl, rfl⟩; dsimp only; clear W4) | (go_at_call 21; refine (W5.out _).mono ?_; rintro e w5 ⟨rfl, rfl⟩; dsimp only; clear W5) | (go_at_call 22; refine (W6.out _).mono ?_; rintro e w5 ⟨rfl, rfl⟩; dsimp only; clear W6) | (go_at_call 23; refine (W7.out _).mono ?_; rintro e w5 ⟨rfl, rfl⟩; dsimp only; clear W7))
                  go_ret
                  exact ⟨ret_b hF.out, BA.out⟩
                | true =>
                  rw [Bool.not_true] at g3
                  cases n4 with
                  | false =>
                    rw [Bool.not_false] at g4
                    have hF : Hid (false = R) := by rw [Hid, HR.out]; rfl
                    clear HR
                    go_wp2_with (first | (go_at_call 21; refine (W1.out _).mono ?_; rintro e w5 ⟨rfl, rfl⟩; dsimp only; clear W1) | (go_at_call 21; refine (W2.out _).mono ?_; rintro e w5 ⟨rfl, rfl⟩; dsimp only; clear W2) | (go_at_call 21; refine (W3.out _).mono ?_; rintro e w5 ⟨rfl, rfl⟩; dsimp only; clear W3) | (go_at_call 21; refine (W4.out _).mono ?_; rintro e w5 ⟨rfl, rfl⟩; dsimp only; clear W4) | (go_at_call 21; refine (W5.out _).mono ?_; rintro e w5 ⟨rfl, rfl⟩; dsimp only; clear W5) | (go_at_call 22; refine (W6.out _).mono ?_; rintro e w5 ⟨rfl, rfl⟩; dsimp only; clear W6) | (go_at_call 23; refine (W7.out _).mono ?_; rintro e w5 ⟨rfl, rfl⟩; dsimp only; clear W7))
                    go_ret
                    exact ⟨ret_b hF.out, BA.out⟩
                  | true =>
                    rw [Bool.not_true] at g4
                    cases tk with
                    | false =>
                      have hF : Hid (false = R) := by rw [Hid, HR.out]; rfl
                      clear HR
                      go_wp2_with (first | (go_at_call 21; refine (W1.out _).mono ?_; rintro e w5 ⟨rfl, rfl⟩; dsimp only; clear W1) | (go_at_call 21; refine (W2.out _).mono ?_; rintro e w5 ⟨rfl, rfl⟩; dsimp only; clear W2) | (go_at_call 21; refine (W3.out _).mono ?_; rintro e w5 ⟨rfl, rfl⟩; dsimp only; clear W3) | (go_at_call 21; refine (W4.out _).mono ?_; rintro e w5 ⟨rfl, rfl⟩; dsimp only; clear W4) | (go_at_call 21; refine (W5.out _).mono ?_; rintro e w5 ⟨rfl, rfl⟩; dsimp only; clear W5) | (go_at_call 22; refine (W6.out _).mono ?_; rintro e w5 ⟨rfl, rfl⟩; dsimp only; clear W6) | (go_at_call 23; refine (W7.out _).mono ?_; rintro e w5 ⟨rfl, rfl⟩; dsimp only; clear W7))
                      go_ret
                      exact ⟨ret_b hF.out, BA.out⟩
                    | true =>
                      cases b20 with
                      | false =>
                        have hF : Hid (false = R) := by rw [Hid, HR.out]; rfl
                        clear HR
                        go_wp2_with (first | (go_at_call 21; refine (W1.out _).mono ?_; rintro e w5 ⟨rfl, rfl⟩; dsimp only; clear W1) | (go_at_call 21; refine (W2.out _).mono ?_; rintro e w5 ⟨rfl, rfl⟩; dsimp only; clear W2) | (go_at_call 21; refine (W3.out _).mono ?_; rintro e w5 ⟨rfl, rfl⟩; dsimp only; clear W3) | (go_at_call 21; refine (W4.out _).mono ?_; rintro e w5 ⟨rfl, rfl⟩; dsimp only; clear W4) | (go_at_call 21; refine (W5.out _).mono ?_; rintro e w5 ⟨rfl, rfl⟩; dsimp only; clear W5) | (go_at_call 22; refine (W6.out _).mono ?_; rintro e w5 ⟨rfl, rfl⟩; dsimp only; clear W6) | (go_at_call 23; refine (W7.out _).mono ?_; rintro e w5 ⟨rfl, rfl⟩; dsimp only; clear W7))
                        go_ret
                        exact ⟨ret_b hF.out, BA.out⟩
                      | true =>
                        cases tg with
                        | false =>
                          have hF : Hid (false = R) := by rw [Hid, HR.out]; rfl
                          clear HR
                          go_wp2_with (first | (go_at_call 21; refine (W1.out _).mono ?_; rintro e w5 ⟨rfl, rfl⟩; dsimp only; clear W1) | (go_at_call 21; refine (W2.out _).mono ?_; rintro e w5 ⟨rfl, rfl⟩; dsimp only; clear W2) | (go_at_call 21; refine (W3.out _).mono ?_; rintro e w5 ⟨rfl, rfl⟩; dsimp only; clear W3) | (go_at_call 21; refine (W4.out _).mono ?_; rintro e w5 ⟨rfl, rfl⟩; dsimp only; clear W4) | (go_at_call 21; refine (W5.out _).mono ?_; rintro e w5 ⟨rfl, rfl⟩; dsimp only; clear W5) | (go_at_call 22; refine (W6.out _).mono ?_; rintro e w5 ⟨rfl, rfl⟩; dsimp only; clear W6) | (go_at_call 23; refine (W7.out _).mono ?_; rintro e w5 ⟨rfl, rfl⟩; dsimp only; clear W7))
                          go_ret
                          exact ⟨ret_b hF.out, BA.out⟩
                        | true =>
                          cases b512 with
                          | false =>
                            have hF : Hid (false = R) := by rw [Hid, HR.out]; rfl
                            clear HR
                            go_wp2_with (first | (go_at_call 21; refine (W1.out _).mono ?_; rintro e w5 ⟨rfl, rfl⟩; dsimp only; clear W1) | (go_at_call 21; refine (W2.out _).mono ?_; rintro e w5 ⟨rfl, rfl⟩; dsimp only; clear W2) | (go_at_call 21; refine (W3.out _).mono ?_; rintro e w5 ⟨rfl, rfl⟩; dsimp only; clear W3) | (go_at_call 21; refine (W4.out _).mono ?_; rintro e w5 ⟨rfl, rfl⟩; dsimp only; clear W4) | (go_at_call 21; refine (W5.out _).mono ?_; rintro e w5 ⟨rfl, rfl⟩; dsimp only; clear W5) | (go_at_call 22; refine (W6.out _).mono ?_; rintro e w5 ⟨rfl, rfl⟩; dsimp only; clear W6) | (go_at_call 23; refine (W7.out _).mono ?_; rintro e w5 ⟨rfl, rfl⟩; dsimp only; clear W7))
                            go_ret
                            exact ⟨ret_b hF.out, BA.out⟩
                          | true =>
                            have hF : Hid (true = R) := by rw [Hid, HR.out]; rfl
                            clear HR
                            go_wp2_with (first | (go_at_call 21; refine (W1.out _).mono ?_; rintro e w5 ⟨rfl, rfl⟩; dsimp only; clear W1) | (go_at_call 21; refine (W2.out _).mono ?_; rintro e w5 ⟨rfl, rfl⟩; dsimp only; clear W2) | (go_at_call 21; refine (W3.out _).mono ?_; rintro e w5 ⟨rfl, rfl⟩; dsimp only; clear W3) | (go_at_call 21; refine (W4.out _).mono ?_; rintro e w5 ⟨rfl, rfl⟩; dsimp only; clear W4) | (go_at_call 21; refine (W5.out _).mono ?_; rintro e w5 ⟨rfl, rfl⟩; dsimp only; clear W5) | (go_at_call 22; refine (W6.out _).mono ?_; rintro e w5 ⟨rfl, rfl⟩; dsimp only; clear W6) | (go_at_call 23; refine (W7.out _).mono ?_; rintro e w5 ⟨rfl, rfl⟩; dsimp only; clear W7))
                            go_ret
                            exact ⟨ret_b hF.out, BA.out⟩
end Go.Proofs.YtedncmbamjkacaaDoor

/- The document's records: text, Write. -/
namespace Go.Proofs.YtedncmbamjkacaaDoor
open Go.RowKit
set_option linter.unusedVariables false

theorem it_len (z : Int) (h0 : 0 ≤ z) (h1 : z ≤ 1125899906842624) : (itoaS z).size ≤ 512 := by
  have b := Lib.itoa_length_le z (by omega) (by omega)
  show (Lib.itoa z).toArray.size ≤ _
  rw [List.size_toArray]
  omega
def blB : ByteArray := ⟨#[32]⟩
def nlB : ByteArray := ⟨#[10]⟩
def nbB (z : Int) : ByteArray := itoaS z ++ blB
theorem nb_len (z : Int) (h0 : 0 ≤ z) (h1 : z ≤ 1125899906842624) : (nbB z).size ≤ 600 := by
  have := it_len z h0 h1
  unfold nbB
  rw [ByteArray.size_append]
  show _ + 1 ≤ _
  omega
set_option maxHeartbeats 400000 in
theorem r13text_any (z : Int) (h0 : 0 ≤ z) (h1 : z ≤ 1125899906842624) (w : World) : Calls Tryd.prog 26 #[.int .i64 z] w fun e w' => e = .returned (.string (nbB z)) ∧ Below w.heap.size w w' := by
  have HT := hidV (rtext_pos z h0 (by omega) w)
  have hs := it_len z h0 h1
  have hc := fun W : World => lcat_run W (itoaS z) ⟨#[32]⟩ (by show _ + 1 ≤ _; omega)
  have he : Hid (itoaS z ++ (⟨#[32]⟩ : ByteArray) = nbB z) := rfl
  generalize itoaS z = x at *
  generalize x ++ (⟨#[32]⟩ : ByteArray) = y at *
  generalize nbB z = y2 at *
  have he2 : y = y2 := he.out
  subst he2
  clear hs he h0 h1
  go_enter Tryd.func26, Tryd.ntmps26
  go_wp2_with fail
  refine HT.out.mono ?_
  rintro e w3 ⟨rfl, B⟩
  have HB := hidV B
  clear HT B
  go_wp2
  go_ret
  exact ⟨rfl, HB.out⟩
theorem ba_app (a b : ByteArray) : (a ++ b).data.toList = a.data.toList ++ b.data.toList := by rw [ByteArray.data_append, Array.toList_append]
theorem cat_ex (a b : ByteArray) (h : a.size + b.size ≤ 281474976710656) : ∃ c : ByteArray, (∀ W : World, (Op.stringOp .add a b).run Tryd.prog W = .ok (.string c) W) ∧ Hid (c.data.toList = a.data.toList ++ b.data.toList ∧ c.size = a.size + b.size) := ⟨a ++ b, fun W => lcat_run W a b h, ba_app a b, ByteArray.size_append⟩
theorem line13 (e : EntP) : lineL e = (nbB e.q).data.toList ++ (nbB e.a).data.toList ++ (nbB e.k).data.toList ++ (nbB e.n).data.toList ++ e.m.data.toList ++ [32] ++ e.t.data.toList ++ [32] ++ (nbB e.c).data.toList ++ (nbB e.u).data.toList ++ (itoaS e.d).data.toList ++ [10] := by
  have hb : ∀ z, (nbB z).data.toList = (itoaS z).data.toList ++ [32] := fun z => ba_app _ _
  rw [hb, hb, hb, hb, hb, hb]
  unfold lineL wordsE numsE
  simp [Lib.join_cons, Lib.joinTail]
set_option maxRecDepth 100000 in
set_option maxHeartbeats 4000000 in
theorem r13write_any (e : EntP) (hr : rightE e = true) (w : World) : Calls Tryd.prog 11 #[.agg (entV e)] w fun r w' => ∃ v k, r = .returned v ∧ Src w' k v (lineL e) ∧ k < w'.heap.size ∧ Below w.heap.size w w' := by
  obtain ⟨hz, hm, ht, htk⟩ := right_bd hr
  clear htk
  have L := line13 e
  have H : ∀ z ∈ numsE e, Hid (∀ W, Calls Tryd.prog 26 #[.int .i64 z] W fun r w' => r = .returned (.string (nbB z)) ∧ Below W.heap.size W w') := fun z h W => r13text_any z (hz z h).1 (hz z h).2 W
  have Z : ∀ z ∈ numsE e, (nbB z).size ≤ 600 := fun z h => nb_len z (hz z h).1 (hz z h).2
  have HQ := H e.q (by simp [numsE])
  have HA := H e.a (by simp [numsE])
  have HK := H e.k (by simp [numsE])
  have HN := H e.n (by simp [numsE])
  have HC := H e.c (by simp [numsE])
  have HU := H e.u (by simp [numsE])
  have HD : Hid (∀ W, Calls Tryd.prog 27 #[.int .i64 e.d] W fun r w' => r = .returned (.string (itoaS e.d)) ∧ Below W.heap.size W w') := fun W => rtext_pos e.d (hz e.d (by simp [numsE])).1 (by have := (hz e.d (by simp [numsE])).2; omega) W
  have z0 := Z e.q (by simp [numsE])
  have z1 := Z e.a (by simp [numsE])
  have z2 := Z e.k (by simp [numsE])
  have z3 := Z e.n (by simp [numsE])
  have z4 := Z e.c (by simp [numsE])
  have z5 := Z e.u (by simp [numsE])
  have z6 := it_len e.d (hz e.d (by simp [numsE])).1 (hz e.d (by simp [numsE])).2
  generalize nbB e.q = T0 at *
  generalize nbB e.a = T1 at *
  generalize nbB e.k = T2 at *
  generalize nbB e.n = T3 at *
  generalize nbB e.c = T4 at *
  generalize nbB e.u = T5 at *
  generalize itoaS e.d = T6 at *
  have HL : Hid (lineL e = _) := L
  have BA : Hid (Below w.heap.size w (w.alloc (.cells (entV e) 23))) := (Below.refl _ _).alloc (Nat.le_refl _) _
  have NA := tblk_new w (.cells (entV e) 23)
  generalize lineL e = LL at *
  clear H Z hz hr L
  obtain ⟨q, a, k, n, m, t, c, u, d⟩ := e
  unfold entV at *
  simp only at *
  obtain ⟨C1, r1, E1⟩ := cat_ex T0 T1 (by omega)
  have s1 := E1.out.2
  obtain ⟨C2, r2, E2⟩ := cat_ex C1 T2 (by omega)
  have s2 := E2.out.2
  obtain ⟨C3, r3, E3⟩ := cat_ex C2 T3 (by omega)
  have s3 := E3.out.2
  obtain ⟨C4, r4, E4⟩ := cat_ex C3 m (by omega)
  have s4 := E4.out.2
  obtain ⟨C5, r5, E5⟩ := cat_ex C4 ⟨#[32]⟩ (by show _ + 1 ≤ _; omega)
  have s5 : C5.size = C4.size + 1 := E5.out.2
  obtain ⟨C6, r6, E6⟩ := cat_ex C5 t (by omega)
  have s6 := E6.out.2
  obtain ⟨C7, r7, E7⟩ := cat_ex C6 ⟨#[32]⟩ (by show _ + 1 ≤ _; omega)
  have s7 : C7.size = C6.size + 1 := E7.out.2
  obtain ⟨C8, r8, E8⟩ := cat_ex C7 T4 (by omega)
  have s8 := E8.out.2
  obtain ⟨C9, r9, E9⟩ := cat_ex C8 T5 (by omega)
  have s9 := E9.out.2
  obtain ⟨D1, p1, F1⟩ := cat_ex C9 T6 (by omega)
  have s10 := F1.out.2
  obtain ⟨D2, p2, F2⟩ := cat_ex D1 ⟨#[10]⟩ (by show _ + 1 ≤ _; omega)
  have s11 : D2.size = D1.size + 1 := F2.out.2
  have HX : Hid (D2.data.toList = LL) := by
    rw [Hid, HL.out, F2.out.1, F1.out.1, E9.out.1, E8.out.1, E7.out.1, E6.out.1, E5.out.1, E4.out.1, E3.out.1, E2.out.1, E1.out.1]
  have HCV : Hid (∀ W : World, ∃ v w1, (convert 9 25 (.string D2)).run Tryd.prog W = .ok v w1 ∧ Src w1 W.heap.size v D2.data.toList ∧ Below W.heap.size W w1 ∧ W.heap.size < w1.heap.size) := fun W => conv_src W D2 (by unfold maxLen; omega)
  have HCC : Hid (∀ W, Below (w.heap.size + 1) (w.alloc (.cells #[.int .i64 q, .int .i64 a, .int .i64 k, .int .i64 n, .string m, .string t, .int .i64 c, .int .i64 u, .int .i64 d] 23)) W → W.cell? ⟨w.heap.size, 0, none⟩ = some (.int .i64 q) ∧ W.cell? ⟨w.heap.size, 1, none⟩ = some (.int .i64 a) ∧ W.cell? ⟨w.heap.size, 2, none⟩ = some (.int .i64 k) ∧ W.cell? ⟨w.heap.size, 3, none⟩ = some (.int .i64 n) ∧ W.cell? ⟨w.heap.size, 4, none⟩ = some (.string m) ∧ W.cell? ⟨w.heap.size, 5, none⟩ = some (.string t) ∧ W.cell? ⟨w.heap.size, 6, none⟩ = some (.int .i64 c) ∧ W.cell? ⟨w.heap.size, 7, none⟩ = some (.int .i64 u) ∧ W.cell? ⟨w.heap.size, 8, none⟩ = some (.int .i64 d)) := fun W b => by
    have N := (b.block w.heap.size (Nat.lt_succ_self _)).trans NA
    exact ⟨tblk_cell N rfl, tblk_cell N rfl, tblk_cell N rfl, tblk_cell N rfl, tblk_cell N rfl, tblk_cell N rfl, tblk_cell N rfl, tblk_cell N rfl, tblk_cell N rfl⟩
  clear s1 s2 s3 s4 s5 s6 s7 s8 s9 s10 s11 z0 z1 z2 z3 z4 z5 z6 E1 E2 E3 E4 E5 E6 E7 E8 E9 F1 F2 HL NA hm ht
  go_enter Tryd.func11, Tryd.ntmps11
  go_wp2_with fail
  obtain ⟨w1, hw1⟩ : ∃ w1, w1 = w.alloc (.cells #[.int .i64 q, .int .i64 a, .int .i64 k, .int .i64 n, .string m, .string t, .int .i64 c, .int .i64 u, .int .i64 d] 23) := ⟨_, rfl⟩
  have hs1 : w1.heap.size = w.heap.size + 1 := by rw [hw1]; simp
  rw [← hw1] at HCC BA ⊢
  have HSZ := hidV hs1
  have KS : Hid (Below w1.heap.size w1 w1.drew) := (Below.refl _ _).drew
  have HCC2 : Hid (∀ W, Hid (Below w1.heap.size w1 W) → _) := fun W b => HCC.out W (by rw [← HSZ.out]; exact b.out)
  have SS := HCC2.out _ KS
  have S0 := HCC2.out w1 (Below.refl _ _)
  clear hw1 hs1 HCC
  have HNX : Hid (∀ W V, Hid (Below w1.heap.size w1 W) → Below W.heap.size W V → Hid (Below w1.heap.size w1 V)) := fun W V b c => b.out.trans (c.mono b.out.size)
  go_region_held3 (fun W => W.cell? ⟨w.heap.size, 0, none⟩ = some (.int .i64 q) ∧ W.cell? ⟨w.heap.size, 1, none⟩ = some (.int .i64 a) ∧ W.cell? ⟨w.heap.size, 2, none⟩ = some (.int .i64 k) ∧ W.cell? ⟨w.heap.size, 3, none⟩ = some (.int .i64 n) ∧ W.cell? ⟨w.heap.size, 4, none⟩ = some (.string m) ∧ W.cell? ⟨w.heap.size, 5, none⟩ = some (.string t) ∧ W.cell? ⟨w.heap.size, 6, none⟩ = some (.int .i64 c) ∧ W.cell? ⟨w.heap.size, 7, none⟩ = some (.int .i64 u) ∧ W.cell? ⟨w.heap.size, 8, none⟩ = some (.int .i64 d)) (first | exact SS | exact S0 | go_keep) (first
    | (go_simp; go_at_call 26; refine Calls.mono (HQ.out _) ?_; rintro e W1 ⟨rfl, B1⟩; have KS := HNX.out _ _ KS B1; have SS := HCC2.out _ KS; clear HQ)
    | (go_simp; go_at_call 26; refine Calls.mono (HA.out _) ?_; rintro e W1 ⟨rfl, B1⟩; have KS := HNX.out _ _ KS B1; have SS := HCC2.out _ KS; clear HA)
    | (go_simp; go_at_call 26; refine Calls.mono (HK.out _) ?_; rintro e W1 ⟨rfl, B1⟩; have KS := HNX.out _ _ KS B1; have SS := HCC2.out _ KS; clear HK)
    | (go_simp; go_at_call 26; refine Calls.mono (HN.out _) ?_; rintro e W1 ⟨rfl, B1⟩; have KS := HNX.out _ _ KS B1; have SS := HCC2.out _ KS; clear HN)
    | (go_simp; go_at_call 26; refine Calls.mono (HC.out _) ?_; rintro e W1 ⟨rfl, B1⟩; have KS := HNX.out _ _ KS B1; have SS := HCC2.out _ KS; clear HC)
    | (go_simp; go_at_call 26; refine Calls.mono (HU.out _) ?_; rintro e W1 ⟨rfl, B1⟩; have KS := HNX.out _ _ KS B1; have SS := HCC2.out _ KS; clear HU)
    | (go_simp; go_at_call 27; refine Calls.mono (HD.out _) ?_; rintro e W1 ⟨rfl, B1⟩; have KS := HNX.out _ _ KS B1; have SS := HCC2.out _ KS; clear HD))
  obtain ⟨v, w9, hrun, hS, hB, hlt⟩ := HCV.out W1
  rw [HX.out] at hS
  have HS := hidV hS
  have HLT := hidV hlt
  have HB : Hid (Below w.heap.size w w9) := (BA.out.trans (KS.out.mono (by rw [HSZ.out]; omega))).trans (hB.mono (Nat.le_trans (by rw [HSZ.out]; omega) KS.out.size))
  clear hS hlt hB HCV HX KS SS S0 BA HSZ HNX HCC2 r1 r2 r3 r4 r5 r6 r7 r8 r9 p1
  go_wp2
  go_ret
  exact ⟨v, _, rfl, HS.out, HLT.out, HB.out⟩
end Go.Proofs.YtedncmbamjkacaaDoor

/- EntryWrites: its walk. -/
namespace Go.Proofs.YtedncmbamjkacaaDoor
open Go.RowKit
set_option linter.unusedVariables false

/-- The record in its block. -/
structure VK (w : World) (x : EntP) (W : World) : Prop where
  bel : Below w.heap.size w W
  bx : W.heap[w.heap.size]? = some (.cells (entV x) 23)
theorem VK.next {w W V : World} {x : EntP} (h : VK w x W) (b : Below W.heap.size W V) : VK w x V := ⟨h.bel.trans (b.mono h.bel.size), tblk_below h.bx b⟩
theorem cells9v {W : World} {b : Nat} {x : EntP} (h : W.heap[b]? = some (.cells (entV x) 23)) : W.cell? ⟨b, 0, none⟩ = some (.int .i64 x.q) ∧ W.cell? ⟨b, 1, none⟩ = some (.int .i64 x.a) ∧ W.cell? ⟨b, 2, none⟩ = some (.int .i64 x.k) ∧ W.cell? ⟨b, 3, none⟩ = some (.int .i64 x.n) ∧ W.cell? ⟨b, 4, none⟩ = some (.string x.m) ∧ W.cell? ⟨b, 5, none⟩ = some (.string x.t) ∧ W.cell? ⟨b, 6, none⟩ = some (.int .i64 x.c) ∧ W.cell? ⟨b, 7, none⟩ = some (.int .i64 x.u) ∧ W.cell? ⟨b, 8, none⟩ = some (.int .i64 x.d) :=
  ⟨tblk_cell h rfl, tblk_cell h rfl, tblk_cell h rfl, tblk_cell h rfl, tblk_cell h rfl, tblk_cell h rfl, tblk_cell h rfl, tblk_cell h rfl, tblk_cell h rfl⟩
set_option maxRecDepth 100000 in
set_option maxHeartbeats 4000000 in
theorem writes13_walk (x : EntP) (w : World) (hm : x.m.size ≤ maxLen) (ht : x.t.size ≤ maxLen) (h : AlE w) : Calls Tryd.prog 3 #[.agg (entV x)] w fun r w' => r = .returned (.bool true) ∧ Below w.heap.size w w' := by
  have K0 : Hid (VK w x (w.alloc (.cells (entV x) 23))) := ⟨(Below.refl _ _).alloc (Nat.le_refl _) _, tblk_new _ _⟩
  have HAV : Hid (∀ W, Hid (VK w x W) → Calls Tryd.prog 5 #[] W fun r w' => r = .returned (.bool true) ∧ Hid (VK w x w')) := fun W hW => (alive13_any W (h.below hW.out.bel)).mono fun r w' hq => ⟨hq.1, hW.out.next hq.2⟩
  have HR1 : Hid (∀ W, Hid (VK w x W) → Calls Tryd.prog 7 #[.agg (entV x)] W fun r w' => r = .returned (.bool (rightE x)) ∧ Hid (VK w x w') ∧ Below W.heap.size W w') := fun W hW => (enright_any x W hm ht (h.below hW.out.bel).l).mono fun r w' hq => ⟨hq.1, hW.out.next hq.2, hq.2⟩
  have HR2 : Hid (∀ W, Hid (VK w x W) → Calls Tryd.prog 8 #[.agg (entV x)] W fun r w' => r = .returned (.bool (rightE x)) ∧ Hid (VK w x w') ∧ Below W.heap.size W w') := fun W hW => (r13right_any x W hm ht).mono fun r w' hq => ⟨hq.1, hW.out.next hq.2, hq.2⟩
  have HWR : Hid (∀ W, Hid (VK w x W) → Calls Tryd.prog 6 #[.agg (entV x)] W fun r w' => (WrR x W r w') ∧ Hid (VK w x w')) := fun W hW => (enwrite_any x W hm ht (h.below hW.out.bel).l (h.below hW.out.bel).p).mono fun r w' hq => ⟨hq, hW.out.next (by
    unfold WrR at hq
    split at hq
    · obtain ⟨_, _, _, _, _, _, _, B⟩ := hq
      exact B
    · exact hq.2)⟩
  have HAL : Hid (∀ W, Hid (VK w x W) → AlE W) := fun W hW => h.below hW.out.bel
  have HC : Hid (∀ W, Hid (VK w x W) → _) := fun W hW => cells9v (W := W) hW.out.bx
  clear hm ht h
  cases hr : rightE x with
  | false =>
    rw [hr] at HR1 HR2
    have HWF : Hid (∀ W, Hid (VK w x W) → Calls Tryd.prog 6 #[.agg (entV x)] W fun r w' => r = .returned (.tuple #[.slice none 0 0, .int .i64 1]) ∧ Hid (VK w x w')) := fun W hW => (HWR.out W hW).mono fun r w' hq => by
      have h1 := hq.1
      unfold WrR at h1
      rw [if_neg (by rw [hr]; decide)] at h1
      exact ⟨h1.1, hq.2⟩
    clear HWR HAL hr
    obtain ⟨q, a, k, n, m, t, c, u, d⟩ := x
    unfold entV at *
    simp only at *
    go_enter Tryd.func3, Tryd.ntmps3
    go_wp2_with fail
    refine (HAV.out _ K0).mono ?_
    rintro r w1 ⟨rfl, K1⟩
    obtain ⟨c0, c1, c2, c3, c4, c5, c6, c7, c8⟩ := HC.out _ K1
    clear HAV K0
    go_wp2_with fail
    refine (HWF.out _ K1).mono ?_
    rintro r w2 ⟨rfl, K2⟩
    clear c0 c1 c2 c3 c4 c5 c6 c7 c8 K1 HWF
    have S0 := HC.out _ K2
    have KS : Hid (VK w ⟨q, a, k, n, m, t, c, u, d⟩ w2.drew) := K2.out.next (Below.refl _ _).drew
    have SS := HC.out _ KS
    clear K2
    go_wp2_with fail
    go_region_held3 (fun W => W.cell? ⟨w.heap.size, 0, none⟩ = some (.int .i64 q) ∧ W.cell? ⟨w.heap.size, 1, none⟩ = some (.int .i64 a) ∧ W.cell? ⟨w.heap.size, 2, none⟩ = some (.int .i64 k) ∧ W.cell? ⟨w.heap.size, 3, none⟩ = some (.int .i64 n) ∧ W.cell? ⟨w.heap.size, 4, none⟩ = some (.string m) ∧ W.cell? ⟨w.heap.size, 5, none⟩ = some (.string t) ∧ W.cell? ⟨w.heap.size, 6, none⟩ = some (.int .i64 c) ∧ W.cell? ⟨w.heap.size, 7, none⟩ = some (.int .i64 u) ∧ W.cell? ⟨w.heap.size, 8, none⟩ = some (.int .i64 d)) (first | exact SS | exact S0 | go_keep) (first
      | (go_simp; go_at_call 7; refine Calls.mono (HR1.out _ KS) ?_; rintro e W1 ⟨rfl, KS, _⟩; have SS := HC.out _ KS)
      | (go_simp; go_at_call 8; refine Calls.mono (HR2.out _ KS) ?_; rintro e W1 ⟨rfl, KS, _⟩; have SS := HC.out _ KS))
    obtain ⟨c0, c1, c2, c3, c4, c5, c6, c7, c8⟩ := SS
    clear S0
    go_wp2_with fail
    refine (HR2.out _ KS).mono ?_
    rintro r w4 ⟨rfl, K4, _⟩
    clear KS HR1 HR2 HC c0 c1 c2 c3 c4 c5 c6 c7 c8
    go_wp2
    go_ret
    exact ⟨rfl, K4.out.bel⟩
  | true =>
    rw [hr] at HR1 HR2
    have hll := line_le hr
    obtain ⟨rb1, rb2⟩ := read_back hr
    have hcod : codR (lineB x) = 0 := by unfold codR; rw [if_pos rb1]
    have HWF : Hid (∀ W, Hid (VK w x W) → Calls Tryd.prog 6 #[.agg (entV x)] W fun r w' => ∃ la lc lk, r = .returned (.tuple #[.slice la (lineL x).length lc, .int .i64 0]) ∧ Hid (VK w x w') ∧ Hid (∀ V, Below w'.heap.size w' V → Src V lk (.slice la (lineL x).length lc) (lineL x) ∧ lk < V.heap.size)) := fun W hW => (HWR.out W hW).mono fun r w' hq => by
      have h1 := hq.1
      unfold WrR at h1
      rw [if_pos hr] at h1
      obtain ⟨la, lc, lk, e1, hS, h1, h2, B⟩ := h1
      exact ⟨la, lc, lk, e1, hq.2, fun V b => ⟨hS.keep (fun _ => h2) b, Nat.lt_of_lt_of_le h2 b.size⟩⟩
    have HRD : Hid (∀ W la lc lk, Hid (VK w x W) → Src W lk (.slice la (lineL x).length lc) (lineL x) → lk < W.heap.size → Calls Tryd.prog 9 #[.slice la (lineL x).length lc] W fun r w' => r = .returned (.tuple #[.agg (entV x), .int .i64 0]) ∧ Hid (VK w x w') ∧ Below W.heap.size W w') := fun W la lc lk hW hS hk => (enread_any (lineL x) lk la (lineL x).length lc W hS (fun _ => hk) (by omega) (HAL.out W hW).m (HAL.out W hW).l (HAL.out W hW).p).mono fun r w' hq => by
      have e1 : (⟨(lineL x).toArray⟩ : ByteArray) = lineB x := rfl
      rw [e1, rb2, hcod] at hq
      exact ⟨hq.1, hW.out.next hq.2, hq.2⟩
    have HRW : Hid (∀ W, Hid (VK w x W) → Calls Tryd.prog 11 #[.agg (entV x)] W fun r w' => ∃ v k, r = .returned v ∧ Src w' k v (lineL x) ∧ k < w'.heap.size ∧ Hid (VK w x w') ∧ Below W.heap.size W w') := fun W hW => (r13write_any x hr W).mono fun r w' ⟨v, k, e1, e2, e3, e4⟩ => ⟨v, k, e1, e2, e3, hW.out.next e4, e4⟩
    have HEQ : Hid (∀ W, (binOp .eql 23 (.agg (entV x)) (.agg (entV x))).run Tryd.prog W = .ok (.bool true) W) := fun W => by rw [ent_eql, (sameE_iff x x).2 rfl]
    generalize lineL x = LL at *
    clear HWR HAL hr rb1 rb2 hcod hll
    obtain ⟨q, a, k, n, m, t, c, u, d⟩ := x
    unfold entV at *
    simp only at *
    go_enter Tryd.func3, Tryd.ntmps3
    go_wp2_with fail
    refine (HAV.out _ K0).mono ?_
    rintro r w1 ⟨rfl, K1⟩
    obtain ⟨c0, c1, c2, c3, c4, c5, c6, c7, c8⟩ := HC.out _ K1
    clear HAV K0
    go_wp2_with fail
    refine (HWF.out _ K1).mono ?_
    rintro r w2 ⟨la, lc, lk, rfl, K2, HSR⟩
    clear c0 c1 c2 c3 c4 c5 c6 c7 c8 K1 HWF
    obtain ⟨ln, hln⟩ : ∃ ln, ln = LL.length := ⟨_, rfl⟩
    have HLN := hidV hln
    rw [← hln] at HSR HRD ⊢
    clear hln
    have S0 := HC.out _ K2
    have KS : Hid (VK w ⟨q, a, k, n, m, t, c, u, d⟩ w2.drew) := K2.out.next (Below.refl _ _).drew
    have KB : Hid (Below w2.heap.size w2 w2.drew) := (Below.refl _ _).drew
    have SS := HC.out _ KS
    have HST : Hid (∀ W V, Hid (Below w2.heap.size w2 W) → Below W.heap.size W V → Hid (Below w2.heap.size w2 V)) := fun W V b c => b.out.trans (c.mono b.out.size)
    clear K2
    go_wp2_with fail
    go_region_held3 (fun W => W.cell? ⟨w.heap.size, 0, none⟩ = some (.int .i64 q) ∧ W.cell? ⟨w.heap.size, 1, none⟩ = some (.int .i64 a) ∧ W.cell? ⟨w.heap.size, 2, none⟩ = some (.int .i64 k) ∧ W.cell? ⟨w.heap.size, 3, none⟩ = some (.int .i64 n) ∧ W.cell? ⟨w.heap.size, 4, none⟩ = some (.string m) ∧ W.cell? ⟨w.heap.size, 5, none⟩ = some (.string t) ∧ W.cell? ⟨w.heap.size, 6, none⟩ = some (.int .i64 c) ∧ W.cell? ⟨w.heap.size, 7, none⟩ = some (.int .i64 u) ∧ W.cell? ⟨w.heap.size, 8, none⟩ = some (.int .i64 d)) (first | exact SS | exact S0 | go_keep) (first
      | (go_simp; go_at_call 7; refine Calls.mono (HR1.out _ KS) ?_; rintro e W1 ⟨rfl, KS, B1⟩; have SS := HC.out _ KS; have KB := HST.out _ _ KB B1)
      | (go_simp; go_at_call 8; refine Calls.mono (HR2.out _ KS) ?_; rintro e W1 ⟨rfl, KS, B1⟩; have SS := HC.out _ KS; have KB := HST.out _ _ KB B1))
    obtain ⟨c0, c1, c2, c3, c4, c5, c6, c7, c8⟩ := SS
    clear S0
    go_wp2_with fail
    refine (HR2.out _ KS).mono ?_
    rintro r w4 ⟨rfl, K4, B4⟩
    have KB4 := HST.out _ _ KB B4
    clear KS KB HR1 HR2 c0 c1 c2 c3 c4 c5 c6 c7 c8 B4
    go_wp2_with fail
    refine (HRD.out _ la lc lk K4 (HSR.out _ KB4.out).1 (HSR.out _ KB4.out).2).mono ?_
    rintro r w5 ⟨rfl, K5, B5⟩
    have KB5 := HST.out _ _ KB4 B5
    have BN : Below w5.heap.size w5 (w5.alloc (.cells #[.int .i64 q, .int .i64 a, .int .i64 k, .int .i64 n, .string m, .string t, .int .i64 c, .int .i64 u, .int .i64 d] 23)) := (Below.refl _ _).alloc (Nat.le_refl _) _
    have K6 : Hid (VK w ⟨q, a, k, n, m, t, c, u, d⟩ (w5.alloc (.cells #[.int .i64 q, .int .i64 a, .int .i64 k, .int .i64 n, .string m, .string t, .int .i64 c, .int .i64 u, .int .i64 d] 23))) := K5.out.next BN
    have KB6 := HST.out _ _ KB5 BN
    have HN6 := hidV (tblk_new w5 (.cells #[.int .i64 q, .int .i64 a, .int .i64 k, .int .i64 n, .string m, .string t, .int .i64 c, .int .i64 u, .int .i64 d] 23))
    obtain ⟨c0, c1, c2, c3, c4, c5, c6, c7, c8⟩ := HC.out _ K5
    have c5lt : w.heap.size < w5.heap.size := (Array.getElem?_eq_some_iff.1 K5.out.bx).1
    clear HRD K4 KB4 B5 KB5 BN K5
    go_wp2_with fail
    refine (HRW.out _ K6).mono ?_
    rintro r w7 ⟨v7, k7, rfl, S7, l7, K7, B7⟩
    have KB7 := HST.out _ _ KB6 B7
    have HSB := hidV (sameBytes_eq LL lk k7 (.slice la ln lc) v7 w7 (HSR.out _ KB7.out).1 S7)
    have HN7 := hidV (tblk_below HN6.out B7)
    clear HRW K6 KB6 HN6 S7 l7 B7 KB7 HSR c0 c1 c2 c3 c4 c5 c6 c7 c8 c5lt
    go_wp2_with fail
    refine HSB.out.mono ?_
    rintro r w8 ⟨rfl, B8⟩
    have K8 := hidV (K7.out.next B8)
    obtain ⟨c0, c1, c2, c3, c4, c5, c6, c7, c8⟩ := HC.out _ K8
    have N8 := tblk_below HN7.out B8
    have d0 : w8.cell? ⟨w5.heap.size, 0, none⟩ = some (.int .i64 q) := tblk_cell N8 rfl
    have d1 : w8.cell? ⟨w5.heap.size, 1, none⟩ = some (.int .i64 a) := tblk_cell N8 rfl
    have d2 : w8.cell? ⟨w5.heap.size, 2, none⟩ = some (.int .i64 k) := tblk_cell N8 rfl
    have d3 : w8.cell? ⟨w5.heap.size, 3, none⟩ = some (.int .i64 n) := tblk_cell N8 rfl
    have d4 : w8.cell? ⟨w5.heap.size, 4, none⟩ = some (.string m) := tblk_cell N8 rfl
    have d5 : w8.cell? ⟨w5.heap.size, 5, none⟩ = some (.string t) := tblk_cell N8 rfl
    have d6 : w8.cell? ⟨w5.heap.size, 6, none⟩ = some (.int .i64 c) := tblk_cell N8 rfl
    have d7 : w8.cell? ⟨w5.heap.size, 7, none⟩ = some (.int .i64 u) := tblk_cell N8 rfl
    have d8 : w8.cell? ⟨w5.heap.size, 8, none⟩ = some (.int .i64 d) := tblk_cell N8 rfl
    have heq := HEQ.out w8
    clear HSB HN7 K7 B8 N8 HEQ HC HST HLN
    go_wp2
    go_ret
    exact ⟨rfl, K8.out.bel⟩
end Go.Proofs.YtedncmbamjkacaaDoor
