/- Texts that the proof leans on, one behind the other: RDgA ByAl SgnC SgnD RtgA Va Vb RDig RDec RsB RsW Vd Ve Vf Vg -/
import Derived.Test.YtedncmbamjkacaaDoorEa2
import Derived.Test.YtedncmbamjkacaaDoorEa3
import Derived.Deep.RegionHeld3
/- The reference's Digit. -/
namespace Go.Proofs.YtedncmbamjkacaaDoor
open Go.RowKit
set_option linter.unusedVariables false

theorem rdig_any (c : Int) (w : World) : Calls Tryd.prog 55 #[.int .u8 c] w fun e w' => e = .returned (.bool (spanP 48 57 c)) ∧ w' = w := by
  unfold spanP
  by_cases a : 48 ≤ c
  · by_cases b : c ≤ 57
    · go_enter Tryd.func55, Tryd.ntmps55
      go_wp2
      go_ret
      exact ⟨ret_b (by simp [a, b]), rfl⟩
    · go_enter Tryd.func55, Tryd.ntmps55
      go_wp2
      go_ret
      exact ⟨ret_b (by simp [b]), rfl⟩
  · go_enter Tryd.func55, Tryd.ntmps55
    go_wp2
    go_ret
    exact ⟨ret_b (by simp; omega), rfl⟩

end Go.Proofs.YtedncmbamjkacaaDoor

/- All bytes, one by one. -/
namespace Go.Proofs.YtedncmbamjkacaaDoor
open Go.RowKit
set_option linter.unusedVariables false

theorem byte_all {P : Int → Prop} (h : ∀ n : Nat, n < 256 → P (n : Int)) (c : Int) (h0 : 0 ≤ c) (h1 : c < 256) : P c := by
  obtain ⟨n, rfl⟩ := Int.eq_ofNat_of_zero_le h0
  exact h n (by omega)
end Go.Proofs.YtedncmbamjkacaaDoor

/- The reference's Token, Value and Target: what each answers of every text. -/
namespace Go.Proofs.YtedncmbamjkacaaDoor
open Go.RowKit
set_option linter.unusedVariables false

def letP (c : Int) : Bool := spanP 97 122 c || spanP 65 90 c
def tokL : List Int := [33, 35, 36, 37, 38, 39, 42, 43, 45, 46, 94, 95, 96, 124, 126]
theorem tok_iff (c : Int) (h0 : 0 ≤ c) (h1 : c < 256) : tokP c = (tokL.any (fun x => c == x) || (letP c || spanP 48 57 c)) :=
  byte_all (P := fun c => tokP c = (tokL.any (fun x => c == x) || (letP c || spanP 48 57 c))) (by decide +kernel) c h0 h1

theorem letter_any (c : Int) (w : World) : Calls Tryd.prog 54 #[.int .u8 c] w fun e w' => e = .returned (.bool (letP c)) ∧ w' = w := by
  unfold letP spanP
  by_cases a : 97 ≤ c
  · by_cases b : c ≤ 122
    · go_enter Tryd.func54, Tryd.ntmps54
      go_wp2
      go_ret
      exact ⟨ret_b (by simp [a, b]), rfl⟩
    · have d : ¬ c ≤ 90 := by omega
      have f : 65 ≤ c := by omega
      go_enter Tryd.func54, Tryd.ntmps54
      go_wp2
      go_ret
      exact ⟨ret_b (by simp [b, d]), rfl⟩
  · by_cases f : 65 ≤ c
    · by_cases d : c ≤ 90
      · go_enter Tryd.func54, Tryd.ntmps54
        go_wp2
        go_ret
        exact ⟨ret_b (by simp), rfl⟩
      · go_enter Tryd.func54, Tryd.ntmps54
        go_wp2
        go_ret
        exact ⟨ret_b (by simp [d]; omega), rfl⟩
    · go_enter Tryd.func54, Tryd.ntmps54
      go_wp2
      go_ret
      exact ⟨ret_b (by simp; omega), rfl⟩

set_option maxHeartbeats 4000000 in
theorem tokenByte_any (c : Int) (w : World) (h0 : 0 ≤ c) (h1 : c < 256) : Calls Tryd.prog 37 #[.int .u8 c] w fun e w' => e = .returned (.bool (tokP c)) ∧ w' = w := by
  by_cases k0 : c = 33
  · subst k0
    go_enter Tryd.func37, Tryd.ntmps37
    go_wp2
    go_ret
    exact ⟨ret_b (by decide +kernel), rfl⟩
  by_cases k1 : c = 35
  · subst k1
    go_enter Tryd.func37, Tryd.ntmps37
    go_wp2
    go_ret
    exact ⟨ret_b (by decide +kernel), rfl⟩
  by_cases k2 : c = 36
  · subst k2
    go_enter Tryd.func37, Tryd.ntmps37
    go_wp2
    go_ret
    exact ⟨ret_b (by decide +kernel), rfl⟩
  by_cases k3 : c = 37
  · subst k3
    go_enter Tryd.func37, Tryd.ntmps37
    go_wp2
    go_ret
    exact ⟨ret_b (by decide +kernel), rfl⟩
  by_cases k4 : c = 38
  · subst k4
    go_enter Tryd.func37, Tryd.ntmps37
    go_wp2
    go_ret
    exact ⟨ret_b (by decide +kernel), rfl⟩
  by_cases k5 : c = 39
  · subst k5
    go_enter Tryd.func37, Tryd.ntmps37
    go_wp2
    go_ret
    exact ⟨ret_b (by decide +kernel), rfl⟩
  by_cases k6 : c = 42
  · subst k6
    go_enter Tryd.func37, Tryd.ntmps37
    go_wp2
    go_ret
    exact ⟨ret_b (by decide +kernel), rfl⟩
  by_cases k7 : c = 43
  · subst k7
    go_enter Tryd.func37, Tryd.ntmps37
    go_wp2
    go_ret
    exact ⟨ret_b (by decide +kernel), rfl⟩
  by_cases k8 : c = 45
  · subst k8
    go_enter Tryd.func37, Tryd.ntmps37
    go_wp2
    go_ret
    exact ⟨ret_b (by decide +kernel), rfl⟩
  by_cases k9 : c = 46
  · subst k9
    go_enter Tryd.func37, Tryd.ntmps37
    go_wp2
    go_ret
    exact ⟨ret_b (by decide +kernel), rfl⟩
  by_cases k10 : c = 94
  · subst k10
    go_enter Tryd.func37, Tryd.ntmps37
    go_wp2
    go_ret
    exact ⟨ret_b (by decide +kernel), rfl⟩
  by_cases k11 : c = 95
  · subst k11
    go_enter Tryd.func37, Tryd.ntmps37
    go_wp2
    go_ret
    exact ⟨ret_b (by decide +kernel), rfl⟩
  by_cases k12 : c = 96
  · subst k12
    go_enter Tryd.func37, Tryd.ntmps37
    go_wp2
    go_ret
    exact ⟨ret_b (by decide +kernel), rfl⟩
  by_cases k13 : c = 124
  · subst k13
    go_enter Tryd.func37, Tryd.ntmps37
    go_wp2
    go_ret
    exact ⟨ret_b (by decide +kernel), rfl⟩
  by_cases k14 : c = 126
  · subst k14
    go_enter Tryd.func37, Tryd.ntmps37
    go_wp2
    go_ret
    exact ⟨ret_b (by decide +kernel), rfl⟩
  have E : Hid (tokP c = (letP c || spanP 48 57 c)) := by rw [Hid, tok_iff c h0 h1]; simp [tokL, k0, k1, k2, k3, k4, k5, k6, k7, k8, k9, k10, k11, k12, k13, k14]
  have m0 : (c == 33) = false := beq_eq_false_iff_ne.2 k0
  have m1 : (c == 35) = false := beq_eq_false_iff_ne.2 k1
  have m2 : (c == 36) = false := beq_eq_false_iff_ne.2 k2
  have m3 : (c == 37) = false := beq_eq_false_iff_ne.2 k3
  have m4 : (c == 38) = false := beq_eq_false_iff_ne.2 k4
  have m5 : (c == 39) = false := beq_eq_false_iff_ne.2 k5
  have m6 : (c == 42) = false := beq_eq_false_iff_ne.2 k6
  have m7 : (c == 43) = false := beq_eq_false_iff_ne.2 k7
  have m8 : (c == 45) = false := beq_eq_false_iff_ne.2 k8
  have m9 : (c == 46) = false := beq_eq_false_iff_ne.2 k9
  have m10 : (c == 94) = false := beq_eq_false_iff_ne.2 k10
  have m11 : (c == 95) = false := beq_eq_false_iff_ne.2 k11
  have m12 : (c == 96) = false := beq_eq_false_iff_ne.2 k12
  have m13 : (c == 124) = false := beq_eq_false_iff_ne.2 k13
  have m14 : (c == 126) = false := beq_eq_false_iff_ne.2 k14
  rw [E.out]
  clear E k0 k1 k2 k3 k4 k5 k6 k7 k8 k9 k10 k11 k12 k13 k14
  cases hl : letP c
  · have HL : Hid (letP c = false) := hl
    clear hl
    go_enter Tryd.func37, Tryd.ntmps37
    go_wp2_with fail
    refine (letter_any c _).mono ?_
    rw [HL.out]
    rintro e w1 ⟨rfl, rfl⟩
    go_wp2_with fail
    refine (rdig_any c _).mono ?_
    rintro e w1 ⟨rfl, rfl⟩
    go_wp2
    go_ret
    exact ⟨ret_b (by simp), rfl⟩
  · have HL : Hid (letP c = true) := hl
    clear hl
    go_enter Tryd.func37, Tryd.ntmps37
    go_wp2_with fail
    refine (letter_any c _).mono ?_
    rw [HL.out]
    rintro e w1 ⟨rfl, rfl⟩
    go_wp2
    go_ret
    exact ⟨ret_b (by simp), rfl⟩
end Go.Proofs.YtedncmbamjkacaaDoor

/- The reference's loops; then Token, Value and Target themselves. -/
namespace Go.Proofs.YtedncmbamjkacaaDoor
open Go.RowKit
set_option linter.unusedVariables false

set_option maxHeartbeats 1000000 in
theorem rToken_any (s : ByteArray) (w : World) (hs : s.size ≤ maxLen) :
    Calls Tryd.prog 22 #[.string s] w fun e w' => e = .returned (.bool (allB tokP s.data.toList && decide (0 < s.size))) ∧ w' = w := by
  unfold maxLen at hs
  go_enter Tryd.func22, Tryd.ntmps22
  go_wp2
  go_loop [3] (fun i => ∃ k : Nat, k ≤ s.size ∧ i = .int .i64 k ∧ Hid (allB tokP (s.data.toList.take k) = true)) (fun i => s.size - (intOf i).toNat)
  case atStart => exact ⟨0, Nat.zero_le _, rfl, rfl⟩
  case round =>
    obtain ⟨k, hk, rfl, hA⟩ := hrel
    by_cases hlt : k < s.size
    · have bd := byte_bd s[k]
      go_wp2_with fail
      refine (tokenByte_any _ _ bd.1 bd.2).mono ?_
      rintro e w' ⟨rfl, rfl⟩
      cases hpc : tokP (s[k].toNat : Int)
      · have HC : Hid (tokP (s[k].toNat : Int) = false) := hpc
        clear hpc
        go_wp2
        go_ret
        exact ⟨ret_b (by rw [allB_false s k hlt HC.out]; rfl), rfl⟩
      · have HC : Hid (tokP (s[k].toNat : Int) = true) := hpc
        clear hpc
        go_wp2
        go_round
        case rel => exact ⟨k + 1, by omega, by go_num, allB_snoc s k hlt hA.out HC.out⟩
        case measure => simp [intOf]; omega
    · go_wp2
      go_ret
      have hk' : k = s.size := by omega
      subst hk'
      exact ⟨ret_b (by have h := hA.out; rw [List.take_of_length_le (by simp)] at h; rw [h]; simp), rfl⟩


end Go.Proofs.YtedncmbamjkacaaDoor

/- The reference's Target. -/
namespace Go.Proofs.YtedncmbamjkacaaDoor
open Go.RowKit
set_option linter.unusedVariables false

theorem tg_yes {c : Int} (h1 : ¬ c ≤ 32) (h2 : ¬ 127 ≤ c) : spanP 33 126 c = true := by unfold spanP; simp; omega
theorem tg_lo {c : Int} (h1 : c ≤ 32) : spanP 33 126 c = false := by unfold spanP; simp; omega
theorem tg_hi {c : Int} (h1 : 127 ≤ c) : spanP 33 126 c = false := by unfold spanP; simp; omega

set_option maxHeartbeats 1000000 in
theorem rtarget_any (s : ByteArray) (w : World) (hs : s.size ≤ maxLen) :
    Calls Tryd.prog 23 #[.string s] w fun e w' => e = .returned (.bool (tgtP s)) ∧ w' = w := by
  unfold maxLen at hs
  unfold tgtP
  go_enter Tryd.func23, Tryd.ntmps23
  go_wp2
  go_loop [3] (fun i => ∃ k : Nat, k ≤ s.size ∧ i = .int .i64 k ∧ Hid (allB (spanP 33 126) (s.data.toList.take k) = true)) (fun i => s.size - (intOf i).toNat)
  case atStart => exact ⟨0, Nat.zero_le _, rfl, rfl⟩
  case round =>
    obtain ⟨k, hk, rfl, hA⟩ := hrel
    by_cases hlt : k < s.size
    · by_cases a : (s[k].toNat : Int) ≤ 32
      · have HC := allB_false (p := spanP 33 126) s k hlt (tg_lo a)
        go_wp2
        go_ret
        exact ⟨ret_b (by simp), rfl⟩
      · have a' : decide ((s[k].toNat : Int) ≤ 32) = false := by simp; omega
        by_cases b : 127 ≤ (s[k].toNat : Int)
        · have HC := allB_false (p := spanP 33 126) s k hlt (tg_hi b)
          clear a
          go_wp2
          go_ret
          exact ⟨ret_b (by simp), rfl⟩
        · have b' : decide (127 ≤ (s[k].toNat : Int)) = false := by simp; omega
          have HC : Hid (allB (spanP 33 126) (s.data.toList.take (k + 1)) = true) := allB_snoc s k hlt hA.out (tg_yes a b)
          clear a b
          go_wp2
          go_round
          case rel => exact ⟨k + 1, by omega, by go_num, HC⟩
          case measure => simp [intOf]; omega
    · have hk' : k = s.size := by omega
      subst hk'
      have h := hA.out
      rw [List.take_of_length_le (show s.data.toList.length ≤ s.size from Nat.le_refl _)] at h
      rcases Nat.eq_zero_or_pos s.size with h0 | h0
      · have h0' : decide ((0 : Int) < (s.size : Int)) = false := decide_eq_false (by omega)
        go_wp2
        go_ret
        exact ⟨ret_b (by first | (simp; done) | (simp; omega)), rfl⟩
      · have h0' : decide ((0 : Int) < (s.size : Int)) = true := decide_eq_true (by omega)
        go_wp2
        go_ret
        exact ⟨ret_b (by first | (simp; done) | (simp; omega)), rfl⟩

end Go.Proofs.YtedncmbamjkacaaDoor

/- The document's records: within, Right. -/
namespace Go.Proofs.YtedncmbamjkacaaDoor
open Go.RowKit
set_option linter.unusedVariables false

theorem hidV {p : Prop} (h : p) : Hid p := h
set_option maxHeartbeats 400000 in
theorem r13within_any (z lo hi : Int) (w : World) : Calls Tryd.prog 21 #[.int .i64 z, .int .i64 lo, .int .i64 hi] w fun e w' => e = .returned (.bool (inB z lo hi)) ∧ w' = w := by
  by_cases h1 : lo ≤ z
  · by_cases h2 : z ≤ hi
    · rw [inB_in h1 h2]
      have e1 : decide (lo ≤ z) = true := decide_eq_true h1
      have e2 : decide (z ≤ hi) = true := decide_eq_true h2
      clear h1 h2
      go_enter Tryd.func21, Tryd.ntmps21
      go_wp2
      go_ret
      exact ⟨rfl, rfl⟩
    · rw [inB_hi (by omega)]
      have e1 : decide (lo ≤ z) = true := decide_eq_true h1
      have e2 : decide (z ≤ hi) = false := decide_eq_false h2
      clear h1 h2
      go_enter Tryd.func21, Tryd.ntmps21
      go_wp2
      go_ret
      exact ⟨rfl, rfl⟩
  · rw [inB_lo (by omega)]
    have e1 : decide (lo ≤ z) = false := decide_eq_false h1
    clear h1
    go_enter Tryd.func21, Tryd.ntmps21
    go_wp2
    go_ret
    exact ⟨rfl, rfl⟩
/-- The document's order of the conditions is another one. -/
theorem right_iff13 (e : EntP) : rightE e = (inB e.q 1 1125899906842624 && (inB e.a 0 1125899906842624 && (inB e.k 0 1125899906842624 && (inB e.u 0 1125899906842624 && (inB e.d 0 1125899906842624 && (decide (1 ≤ e.n) && (decide (e.n ≤ 2147483647) && (decide (0 ≤ e.c) && (decide (e.c ≤ 999) && (tokS e.m && (decide (e.m.size ≤ 20) && (tgtP e.t && decide (e.t.size ≤ 512))))))))))))) := by
  unfold rightE withinP
  generalize inB e.q 1 1125899906842624 = b1
  generalize inB e.a 0 1125899906842624 = b2
  generalize inB e.k 0 1125899906842624 = b3
  generalize inB e.u 0 1125899906842624 = b4
  generalize inB e.d 0 1125899906842624 = b5
  unfold inB
  generalize decide (1 ≤ e.n) = b6
  generalize decide (e.n ≤ 2147483647) = b7
  generalize decide (0 ≤ e.c) = b8
  generalize decide (e.c ≤ 999) = b9
  generalize tokS e.m = c1
  generalize decide (e.m.size ≤ 20) = c2
  generalize tgtP e.t = c3
  generalize decide (e.t.size ≤ 512) = c4
  cases b1 <;> cases b2 <;> cases b3 <;> cases b4 <;> cases b5 <;> cases b6 <;> cases b7 <;> cases b8 <;> cases b9 <;> cases c1 <;> cases c2 <;> cases c3 <;> cases c4 <;> rfl
set_option maxRecDepth 100000 in
set_option maxHeartbeats 4000000 in
theorem r13right_any (e : EntP) (w : World) (hm : e.m.size ≤ maxLen) (ht : e.t.size ≤ maxLen) : Calls Tryd.prog 8 #[.agg (entV e)] w fun r w' => r = .returned (.bool (rightE e)) ∧ Below w.heap.size w w' := by
  have HW : Hid (∀ z lo hi W, Calls Tryd.prog 21 #[.int .i64 z, .int .i64 lo, .int .i64 hi] W fun e w' => e = .returned (.bool (inB z lo hi)) ∧ w' = W) := fun z lo hi W => r13within_any z lo hi W
  have HT : Hid (∀ W, Calls Tryd.prog 22 #[.string e.m] W fun r w' => r = .returned (.bool (tokS e.m)) ∧ w' = W) := fun W => rToken_any e.m W hm
  have HG : Hid (∀ W, Calls Tryd.prog 23 #[.string e.t] W fun r w' => r = .returned (.bool (tgtP e.t)) ∧ w' = W) := fun W => rtarget_any e.t W ht
  have HR : Hid (rightE e = _) := right_iff13 e
  have BA : Hid (Below w.heap.size w (w.alloc (.cells (entV e) 23))) := (Below.refl _ _).alloc (Nat.le_refl _) _
  have NA := tblk_new w (.cells (entV e) 23)
  have wlt : w.heap.size < (w.alloc (.cells (entV e) 23)).heap.size := by simp
  generalize rightE e = R at *
  generalize tokS e.m = tk at *
  generalize tgtP e.t = tg at *
  obtain ⟨q, a, k, n, m, t, c, u, d⟩ := e
  unfold entV at *
  simp only at *
  unfold maxLen at hm ht
  have h20 : decide ((m.size : Int) ≤ 20) = decide (m.size ≤ 20) := by by_cases h : m.size ≤ 20 <;> simp [h] <;> omega
  have h512 : decide ((t.size : Int) ≤ 512) = decide (t.size ≤ 512) := by by_cases h : t.size ≤ 512 <;> simp [h] <;> omega
  have g1 : decide (n < 1) = !decide (1 ≤ n) := by by_cases h : 1 ≤ n <;> simp [h] <;> omega
  have g2 : decide (2147483647 < n) = !decide (n ≤ 2147483647) := by by_cases h : n ≤ 2147483647 <;> simp [h] <;> omega
  have g3 : decide (c < 0) = !decide (0 ≤ c) := by by_cases h : 0 ≤ c <;> simp [h] <;> omega
  have g4 : decide (999 < c) = !decide (c ≤ 999) := by by_cases h : c ≤ 999 <;> simp [h] <;> omega
  generalize decide (m.size ≤ 20) = b20 at *
  generalize decide (t.size ≤ 512) = b512 at *
  generalize decide (1 ≤ n) = n1 at *
  generalize decide (n ≤ 2147483647) = n2 at *
  generalize decide (0 ≤ c) = n3 at *
  generalize decide (c ≤ 999) = n4 at *
  have W1 := hidV (HW.out q 1 1125899906842624)
  have W2 := hidV (HW.out a 0 1125899906842624)
  have W3 := hidV (HW.out k 0 1125899906842624)
  have W4 := hidV (HW.out u 0 1125899906842624)
  have W5 := hidV (HW.out d 0 1125899906842624)
  generalize inB q 1 1125899906842624 = b1 at *
  generalize inB a 0 1125899906842624 = b2 at *
  generalize inB k 0 1125899906842624 = b3 at *
  generalize inB u 0 1125899906842624 = b4 at *
  generalize inB d 0 1125899906842624 = b5 at *
  have c0 : (w.alloc (.cells #[.int .i64 q, .int .i64 a, .int .i64 k, .int .i64 n, .string m, .string t, .int .i64 c, .int .i64 u, .int .i64 d] 23)).cell? ⟨w.heap.size, 0, none⟩ = some (.int .i64 q) := tblk_cell NA rfl
  clear NA HW hm ht c0
  have W6 : Hid (∀ W, Calls Tryd.prog 22 #[.string m] W fun r w' => r = .returned (.bool tk) ∧ w' = W) := HT
  have W7 : Hid (∀ W, Calls Tryd.prog 23 #[.string t] W fun r w' => r = .returned (.bool tg) ∧ w' = W) := HG
  clear HT HG
  go_enter Tryd.func8, Tryd.ntmps8
  cases b1 with
  | false =>
    have hF : Hid (false = R) := by rw [Hid, HR.out]; rfl
    clear HR
    go_wp2_with (first | (go_at_call 21; refine (W1.out _).mono ?_; rintro e w5 ⟨rfl, rfl⟩; dsimp only; clear W1) | (go_at_call 21; refine (W2.out _).mono ?_; rintro e w5 ⟨rfl, rfl⟩; dsimp only; clear W2) | (go_at_call 21; refine (W3.out _).mono ?_; rintro e w5 ⟨rfl, rfl⟩; dsimp only; clear W3) | (go_at_call 21; refine (W4.out _).mono ?_; rintro e w5 ⟨rfl, rfl⟩; dsimp only; clear W4) | (go_at_call 21; refine (W5.out _).mono ?_; rintro e w5 ⟨rfl, rfl⟩; dsimp only; clear W5) | (go_at_call 22; refine (W6.out _).mono ?_; rintro e w5 ⟨rfl, rfl⟩; dsimp only; clear W6) | (go_at_call 23; refine (W7.out _).mono ?_; rintro e w5 ⟨rfl, rfl⟩; dsimp only; clear W7))
    go_ret
    exact ⟨ret_b hF.out, BA.out⟩
  | true =>
    cases b2 with
    | false =>
      have hF : Hid (false = R) := by rw [Hid, HR.out]; rfl
      clear HR
      go_wp2_with (first | (go_at_call 21; refine (W1.out _).mono ?_; rintro e w5 ⟨rfl, rfl⟩; dsimp only; clear W1) | (go_at_call 21; refine (W2.out _).mono ?_; rintro e w5 ⟨rfl, rfl⟩; dsimp only; clear W2) | (go_at_call 21; refine (W3.out _).mono ?_; rintro e w5 ⟨rfl, rfl⟩; dsimp only; clear W3) | (go_at_call 21; refine (W4.out _).mono ?_; rintro e w5 ⟨rfl, rfl⟩; dsimp only; clear W4) | (go_at_call 21; refine (W5.out _).mono ?_; rintro e w5 ⟨rfl, rfl⟩; dsimp only; clear W5) | (go_at_call 22; refine (W6.out _).mono ?_; rintro e w5 ⟨rfl, rfl⟩; dsimp only; clear W6) | (go_at_call 23; refine (W7.out _).mono ?_; rintro e w5 ⟨rfl, rfl⟩; dsimp only; clear W7))
      go_ret
      exact ⟨ret_b hF.out, BA.out⟩
    | true =>
      cases b3 with
      | false =>
        have hF : Hid (false = R) := by rw [Hid, HR.out]; rfl
        clear HR
        go_wp2_with (first | (go_at_call 21; refine (W1.out _).mono ?_; rintro e w5 ⟨rfl, rfl⟩; dsimp only; clear W1) | (go_at_call 21; refine (W2.out _).mono ?_; rintro e w5 ⟨rfl, rfl⟩; dsimp only; clear W2) | (go_at_call 21; refine (W3.out _).mono ?_; rintro e w5 ⟨rfl, rfl⟩; dsimp only; clear W3) | (go_at_call 21; refine (W4.out _).mono ?_; rintro e w5 ⟨rfl, rfl⟩; dsimp only; clear W4) | (go_at_call 21; refine (W5.out _).mono ?_; rintro e w5 ⟨rfl, rfl⟩; dsimp only; clear W5) | (go_at_call 22; refine (W6.out _).mono ?_; rintro e w5 ⟨rfl, rfl⟩; dsimp only; clear W6) | (go_at_call 23; refine (W7.out _).mono ?_; rintro e w5 ⟨rfl, rfl⟩; dsimp only; clear W7))
        go_ret
        exact ⟨ret_b hF.out, BA.out⟩
      | true =>
        cases b4 with
        | false =>
          have hF : Hid (false = R) := by rw [Hid, HR.out]; rfl
          clear HR
          go_wp2_with (first | (go_at_call 21; refine (W1.out _).mono ?_; rintro e w5 ⟨rfl, rfl⟩; dsimp only; clear W1) | (go_at_call 21; refine (W2.out _).mono ?_; rintro e w5 ⟨rfl, rfl⟩; dsimp only; clear W2) | (go_at_call 21; refine (W3.out _).mono ?_; rintro e w5 ⟨rfl, rfl⟩; dsimp only; clear W3) | (go_at_call 21; refine (W4.out _).mono ?_; rintro e w5 ⟨rfl, rfl⟩; dsimp only; clear W4) | (go_at_call 21; refine (W5.out _).mono ?_; rintro e w5 ⟨rfl, rfl⟩; dsimp only; clear W5) | (go_at_call 22; refine (W6.out _).mono ?_; rintro e w5 ⟨rfl, rfl⟩; dsimp only; clear W6) | (go_at_call 23; refine (W7.out _).mono ?_; rintro e w5 ⟨rfl, rfl⟩; dsimp only; clear W7))
          go_ret
          exact ⟨ret_b hF.out, BA.out⟩
        | true =>
          cases b5 with
          | false =>
            have hF : Hid (false = R) := by rw [Hid, HR.out]; rfl
            clear HR
            go_wp2_with (first | (go_at_call 21; refine (W1.out _).mono ?_; rintro e w5 ⟨rfl, rfl⟩; dsimp only; clear W1) | (go_at_call 21; refine (W2.out _).mono ?_; rintro e w5 ⟨rfl, rfl⟩; dsimp only; clear W2) | (go_at_call 21; refine (W3.out _).mono ?_; rintro e w5 ⟨rfl, rfl⟩; dsimp only; clear W3) | (go_at_call 21; refine (W4.out _).mono ?_; rintro e w5 ⟨rfl, rfl⟩; dsimp only; clear W4) | (go_at_call 21; refine (W5.out _).mono ?_; rintro e w5 ⟨rfl, rfl⟩; dsimp only; clear W5) | (go_at_call 22; refine (W6.out _).mono ?_; rintro e w5 ⟨rfl, rfl⟩; dsimp only; clear W6) | (go_at_call 23; refine (W7.out _).mono ?_; rintro e w5 ⟨rfl, rfl⟩; dsimp only; clear W7))
            go_ret
            exact ⟨ret_b hF.out, BA.out⟩
          | true =>
            cases n1 with
            | false =>
              rw [Bool.not_false] at g1
              have hF : Hid (false = R) := by rw [Hid, HR.out]; rfl
              clear HR
              go_wp2_with (first | (go_at_call 21; refine (W1.out _).mono ?_; rintro e w5 ⟨rfl, rfl⟩; dsimp only; clear W1) | (go_at_call 21; refine (W2.out _).mono ?_; rintro e w5 ⟨rfl, rfl⟩; dsimp only; clear W2) | (go_at_call 21; refine (W3.out _).mono ?_; rintro e w5 ⟨rfl, rfl⟩; dsimp only; clear W3) | (go_at_call 21; refine (W4.out _).mono ?_; rintro e w5 ⟨rfl, rfl⟩; dsimp only; clear W4) | (go_at_call 21; refine (W5.out _).mono ?_; rintro e w5 ⟨rfl, rfl⟩; dsimp only; clear W5) | (go_at_call 22; refine (W6.out _).mono ?_; rintro e w5 ⟨rfl, rfl⟩; dsimp only; clear W6) | (go_at_call 23; refine (W7.out _).mono ?_; rintro e w5 ⟨rfl, rfl⟩; dsimp only; clear W7))
              go_ret
              exact ⟨ret_b hF.out, BA.out⟩
            | true =>
              rw [Bool.not_true] at g1
              cases n2 with
              | false =>
                rw [Bool.not_false] at g2
                have hF : Hid (false = R) := by rw [Hid, HR.out]; rfl
                clear HR
                go_wp2_with (first | (go_at_call 21; refine (W1.out _).mono ?_; rintro e w5 ⟨rfl, rfl⟩; dsimp only; clear W1) | (go_at_call 21; refine (W2.out _).mono ?_; rintro e w5 ⟨rfl, rfl⟩; dsimp only; clear W2) | (go_at_call 21; refine (W3.out _).mono ?_; rintro e w5 ⟨rfl, rfl⟩; dsimp only; clear W3) | (go_at_call 21; refine (W4.out _).mono ?_; rintro e w5 ⟨rfl, rfl⟩; dsimp only; clear W4) | (go_at_call 21; refine (W5.out _).mono ?_; rintro e w5 ⟨rfl, rfl⟩; dsimp only; clear W5) | (go_at_call 22; refine (W6.out _).mono ?_; rintro e w5 ⟨rfl, rfl⟩; dsimp only; clear W6) | (go_at_call 23; refine (W7.out _).mono ?_; rintro e w5 ⟨rfl, rfl⟩; dsimp only; clear W7))
                go_ret
                exact ⟨ret_b hF.out, BA.out⟩
              | true =>
                rw [Bool.not_true] at g2
                cases n3 with
                | false =>
                  rw [Bool.not_false] at g3
                  have hF : Hid (false = R) := by rw [Hid, HR.out]; rfl
                  clear HR
                  go_wp2_with (first | (go_at_call 21; refine (W1.out _).mono ?_; rintro e w5 ⟨rfl, rfl⟩; dsimp only; clear W1) | (go_at_call 21; refine (W2.out _).mono ?_; rintro e w5 ⟨rfl, rfl⟩; dsimp only; clear W2) | (go_at_call 21; refine (W3.out _).mono ?_; rintro e w5 ⟨rfl, rfl⟩; dsimp only; clear W3) | (go_at_call 21; refine (W4.out _).mono ?_; rintro e w5 ⟨rfl, rfl⟩; dsimp only; clear W4) | (go_at_call 21; refine (W5.out _).mono ?_; rintro e w5 ⟨rfl, rfl⟩; dsimp only; clear W5) | (go_at_call 22; refine (W6.out _).mono ?_; rintro e w5 ⟨rfl, rfl⟩; dsimp only; clear W6) | (go_at_call 23; refine (W7.out _).mono ?_; rintro e w5 ⟨rfl, rfl⟩; dsimp only; clear W7))
                  go_ret
                  exact ⟨ret_b hF.out, BA.out⟩
                | true =>
                  rw [Bool.not_true] at g3
                  cases n4 with
                  | false =>
                    rw [Bool.not_false] at g4
                    have hF : Hid (false = R) := by rw [Hid, HR.out]; rfl
                    clear HR
                    go_wp2_with (first | (go_at_call 21; refine (W1.out _).mono ?_; rintro e w5 ⟨rfl, rfl⟩; dsimp only; clear W1) | (go_at_call 21; refine (W2.out _).mono ?_; rintro e w5 ⟨rfl, rfl⟩; dsimp only; clear W2) | (go_at_call 21; refine (W3.out _).mono ?_; rintro e w5 ⟨rfl, rfl⟩; dsimp only; clear W3) | (go_at_call 21; refine (W4.out _).mono ?_; rintro e w5 ⟨rfl, rfl⟩; dsimp only; clear W4) | (go_at_call 21; refine (W5.out _).mono ?_; rintro e w5 ⟨rfl, rfl⟩; dsimp only; clear W5) | (go_at_call 22; refine (W6.out _).mono ?_; rintro e w5 ⟨rfl, rfl⟩; dsimp only; clear W6) | (go_at_call 23; refine (W7.out _).mono ?_; rintro e w5 ⟨rfl, rfl⟩; dsimp only; clear W7))
                    go_ret
                    exact ⟨ret_b hF.out, BA.out⟩
                  | true =>
                    rw [Bool.not_true] at g4
                    cases tk with
                    | false =>
                      have hF : Hid (false = R) := by rw [Hid, HR.out]; rfl
                      clear HR
                      go_wp2_with (first | (go_at_call 21; refine (W1.out _).mono ?_; rintro e w5 ⟨rfl, rfl⟩; dsimp only; clear W1) | (go_at_call 21; refine (W2.out _).mono ?_; rintro e w5 ⟨rfl, rfl⟩; dsimp only; clear W2) | (go_at_call 21; refine (W3.out _).mono ?_; rintro e w5 ⟨rfl, rfl⟩; dsimp only; clear W3) | (go_at_call 21; refine (W4.out _).mono ?_; rintro e w5 ⟨rfl, rfl⟩; dsimp only; clear W4) | (go_at_call 21; refine (W5.out _).mono ?_; rintro e w5 ⟨rfl, rfl⟩; dsimp only; clear W5) | (go_at_call 22; refine (W6.out _).mono ?_; rintro e w5 ⟨rfl, rfl⟩; dsimp only; clear W6) | (go_at_call 23; refine (W7.out _).mono ?_; rintro e w5 ⟨rfl, rfl⟩; dsimp only; clear W7))
                      go_ret
                      exact ⟨ret_b hF.out, BA.out⟩
                    | true =>
                      cases b20 with
                      | false =>
                        have hF : Hid (false = R) := by rw [Hid, HR.out]; rfl
                        clear HR
                        go_wp2_with (first | (go_at_call 21; refine (W1.out _).mono ?_; rintro e w5 ⟨rfl, rfl⟩; dsimp only; clear W1) | (go_at_call 21; refine (W2.out _).mono ?_; rintro e w5 ⟨rfl, rfl⟩; dsimp only; clear W2) | (go_at_call 21; refine (W3.out _).mono ?_; rintro e w5 ⟨rfl, rfl⟩; dsimp only; clear W3) | (go_at_call 21; refine (W4.out _).mono ?_; rintro e w5 ⟨rfl, rfl⟩; dsimp only; clear W4) | (go_at_call 21; refine (W5.out _).mono ?_; rintro e w5 ⟨rfl, rfl⟩; dsimp only; clear W5) | (go_at_call 22; refine (W6.out _).mono ?_; rintro e w5 ⟨rfl, rfl⟩; dsimp only; clear W6) | (go_at_call 23; refine (W7.out _).mono ?_; rintro e w5 ⟨rfl, rfl⟩; dsimp only; clear W7))
                        go_ret
                        exact ⟨ret_b hF.out, BA.out⟩
                      | true =>
                        cases tg with
                        | false =>
                          have hF : Hid (false = R) := by rw [Hid, HR.out]; rfl
                          clear HR
                          go_wp2_with (first | (go_at_call 21; refine (W1.out _).mono ?_; rintro e w5 ⟨rfl, rfl⟩; dsimp only; clear W1) | (go_at_call 21; refine (W2.out _).mono ?_; rintro e w5 ⟨rfl, rfl⟩; dsimp only; clear W2) | (go_at_call 21; refine (W3.out _).mono ?_; rintro e w5 ⟨rfl, rfl⟩; dsimp only; clear W3) | (go_at_call 21; refine (W4.out _).mono ?_; rintro e w5 ⟨rfl, rfl⟩; dsimp only; clear W4) | (go_at_call 21; refine (W5.out _).mono ?_; rintro e w5 ⟨rfl, rfl⟩; dsimp only; clear W5) | (go_at_call 22; refine (W6.out _).mono ?_; rintro e w5 ⟨rfl, rfl⟩; dsimp only; clear W6) | (go_at_call 23; refine (W7.out _).mono ?_; rintro e w5 ⟨rfl, rfl⟩; dsimp only; clear W7))
                          go_ret
                          exact ⟨ret_b hF.out, BA.out⟩
                        | true =>
                          cases b512 with
                          | false =>
                            have hF : Hid (false = R) := by rw [Hid, HR.out]; rfl
                            clear HR
                            go_wp2_with (first | (go_at_call 21; refine (W1.out _).mono ?_; rintro e w5 ⟨rfl, rfl⟩; dsimp only; clear W1) | (go_at_call 21; refine (W2.out _).mono ?_; rintro e w5 ⟨rfl, rfl⟩; dsimp only; clear W2) | (go_at_call 21; refine (W3.out _).mono ?_; rintro e w5 ⟨rfl, rfl⟩; dsimp only; clear W3) | (go_at_call 21; refine (W4.out _).mono ?_; rintro e w5 ⟨rfl, rfl⟩; dsimp only; clear W4) | (go_at_call 21; refine (W5.out _).mono ?_; rintro e w5 ⟨rfl, rfl⟩; dsimp only; clear W5) | (go_at_call 22; refine (W6.out _).mono ?_; rintro e w5 ⟨rfl, rfl⟩; dsimp only; clear W6) | (go_at_call 23; refine (W7.out _).mono ?_; rintro e w5 ⟨rfl, rfl⟩; dsimp only; clear W7))
                            go_ret
                            exact ⟨ret_b hF.out, BA.out⟩
                          | true =>
                            have hF : Hid (true = R) := by rw [Hid, HR.out]; rfl
                            clear HR
                            go_wp2_with (first | (go_at_call 21; refine (W1.out _).mono ?_; rintro e w5 ⟨rfl, rfl⟩; dsimp only; clear W1) | (go_at_call 21; refine (W2.out _).mono ?_; rintro e w5 ⟨rfl, rfl⟩; dsimp only; clear W2) | (go_at_call 21; refine (W3.out _).mono ?_; rintro e w5 ⟨rfl, rfl⟩; dsimp only; clear W3) | (go_at_call 21; refine (W4.out _).mono ?_; rintro e w5 ⟨rfl, rfl⟩; dsimp only; clear W4) | (go_at_call 21; refine (W5.out _).mono ?_; rintro e w5 ⟨rfl, rfl⟩; dsimp only; clear W5) | (go_at_call 22; refine (W6.out _).mono ?_; rintro e w5 ⟨rfl, rfl⟩; dsimp only; clear W6) | (go_at_call 23; refine (W7.out _).mono ?_; rintro e w5 ⟨rfl, rfl⟩; dsimp only; clear W7))
                            go_ret
                            exact ⟨ret_b hF.out, BA.out⟩
end Go.Proofs.YtedncmbamjkacaaDoor

/- The document's records: text, Write. -/
namespace Go.Proofs.YtedncmbamjkacaaDoor
open Go.RowKit
set_option linter.unusedVariables false

theorem it_len (z : Int) (h0 : 0 ≤ z) (h1 : z ≤ 1125899906842624) : (itoaS z).size ≤ 512 := by
  have b := Lib.itoa_length_le z (by omega) (by omega)
  show (Lib.itoa z).toArray.size ≤ _
  rw [List.size_toArray]
  omega
def blB : ByteArray := ⟨#[32]⟩
def nlB : ByteArray := ⟨#[10]⟩
def nbB (z : Int) : ByteArray := itoaS z ++ blB
theorem nb_len (z : Int) (h0 : 0 ≤ z) (h1 : z ≤ 1125899906842624) : (nbB z).size ≤ 600 := by
  have := it_len z h0 h1
  unfold nbB
  rw [ByteArray.size_append]
  show _ + 1 ≤ _
  omega
set_option maxHeartbeats 400000 in
theorem r13text_any (z : Int) (h0 : 0 ≤ z) (h1 : z ≤ 1125899906842624) (w : World) : Calls Tryd.prog 26 #[.int .i64 z] w fun e w' => e = .returned (.string (nbB z)) ∧ Below w.heap.size w w' := by
  have HT := hidV (rtext_pos z h0 (by omega) w)
  have hs := it_len z h0 h1
  have hc := fun W : World => lcat_run W (itoaS z) ⟨#[32]⟩ (by show _ + 1 ≤ _; omega)
  have he : Hid (itoaS z ++ (⟨#[32]⟩ : ByteArray) = nbB z) := rfl
  generalize itoaS z = x at *
  generalize x ++ (⟨#[32]⟩ : ByteArray) = y at *
  generalize nbB z = y2 at *
  have he2 : y = y2 := he.out
  subst he2
  clear hs he h0 h1
  go_enter Tryd.func26, Tryd.ntmps26
  go_wp2_with fail
  refine HT.out.mono ?_
  rintro e w3 ⟨rfl, B⟩
  have HB := hidV B
  clear HT B
  go_wp2
  go_ret
  exact ⟨rfl, HB.out⟩
theorem ba_app (a b : ByteArray) : (a ++ b).data.toList = a.data.toList ++ b.data.toList := by rw [ByteArray.data_append, Array.toList_append]
theorem cat_ex (a b : ByteArray) (h : a.size + b.size ≤ 281474976710656) : ∃ c : ByteArray, (∀ W : World, (Op.stringOp .add a b).run Tryd.prog W = .ok (.string c) W) ∧ Hid (c.data.toList = a.data.toList ++ b.data.toList ∧ c.size = a.size + b.size) := ⟨a ++ b, fun W => lcat_run W a b h, ba_app a b, ByteArray.size_append⟩
theorem line13 (e : EntP) : lineL e = (nbB e.q).data.toList ++ (nbB e.a).data.toList ++ (nbB e.k).data.toList ++ (nbB e.n).data.toList ++ e.m.data.toList ++ [32] ++ e.t.data.toList ++ [32] ++ (nbB e.c).data.toList ++ (nbB e.u).data.toList ++ (itoaS e.d).data.toList ++ [10] := by
  have hb : ∀ z, (nbB z).data.toList = (itoaS z).data.toList ++ [32] := fun z => ba_app _ _
  rw [hb, hb, hb, hb, hb, hb]
  unfold lineL wordsE numsE
  simp [Lib.join_cons, Lib.joinTail]
set_option maxRecDepth 100000 in
set_option maxHeartbeats 4000000 in
theorem r13write_any (e : EntP) (hr : rightE e = true) (w : World) : Calls Tryd.prog 11 #[.agg (entV e)] w fun r w' => ∃ v k, r = .returned v ∧ Src w' k v (lineL e) ∧ k < w'.heap.size ∧ Below w.heap.size w w' := by
  obtain ⟨hz, hm, ht, htk⟩ := right_bd hr
  clear htk
  have L := line13 e
  have H : ∀ z ∈ numsE e, Hid (∀ W, Calls Tryd.prog 26 #[.int .i64 z] W fun r w' => r = .returned (.string (nbB z)) ∧ Below W.heap.size W w') := fun z h W => r13text_any z (hz z h).1 (hz z h).2 W
  have Z : ∀ z ∈ numsE e, (nbB z).size ≤ 600 := fun z h => nb_len z (hz z h).1 (hz z h).2
  have HQ := H e.q (by simp [numsE])
  have HA := H e.a (by simp [numsE])
  have HK := H e.k (by simp [numsE])
  have HN := H e.n (by simp [numsE])
  have HC := H e.c (by simp [numsE])
  have HU := H e.u (by simp [numsE])
  have HD : Hid (∀ W, Calls Tryd.prog 27 #[.int .i64 e.d] W fun r w' => r = .returned (.string (itoaS e.d)) ∧ Below W.heap.size W w') := fun W => rtext_pos e.d (hz e.d (by simp [numsE])).1 (by have := (hz e.d (by simp [numsE])).2; omega) W
  have z0 := Z e.q (by simp [numsE])
  have z1 := Z e.a (by simp [numsE])
  have z2 := Z e.k (by simp [numsE])
  have z3 := Z e.n (by simp [numsE])
  have z4 := Z e.c (by simp [numsE])
  have z5 := Z e.u (by simp [numsE])
  have z6 := it_len e.d (hz e.d (by simp [numsE])).1 (hz e.d (by simp [numsE])).2
  generalize nbB e.q = T0 at *
  generalize nbB e.a = T1 at *
  generalize nbB e.k = T2 at *
  generalize nbB e.n = T3 at *
  generalize nbB e.c = T4 at *
  generalize nbB e.u = T5 at *
  generalize itoaS e.d = T6 at *
  have HL : Hid (lineL e = _) := L
  have BA : Hid (Below w.heap.size w (w.alloc (.cells (entV e) 23))) := (Below.refl _ _).alloc (Nat.le_refl _) _
  have NA := tblk_new w (.cells (entV e) 23)
  generalize lineL e = LL at *
  clear H Z hz hr L
  obtain ⟨q, a, k, n, m, t, c, u, d⟩ := e
  unfold entV at *
  simp only at *
  obtain ⟨C1, r1, E1⟩ := cat_ex T0 T1 (by omega)
  have s1 := E1.out.2
  obtain ⟨C2, r2, E2⟩ := cat_ex C1 T2 (by omega)
  have s2 := E2.out.2
  obtain ⟨C3, r3, E3⟩ := cat_ex C2 T3 (by omega)
  have s3 := E3.out.2
  obtain ⟨C4, r4, E4⟩ := cat_ex C3 m (by omega)
  have s4 := E4.out.2
  obtain ⟨C5, r5, E5⟩ := cat_ex C4 ⟨#[32]⟩ (by show _ + 1 ≤ _; omega)
  have s5 : C5.size = C4.size + 1 := E5.out.2
  obtain ⟨C6, r6, E6⟩ := cat_ex C5 t (by omega)
  have s6 := E6.out.2
  obtain ⟨C7, r7, E7⟩ := cat_ex C6 ⟨#[32]⟩ (by show _ + 1 ≤ _; omega)
  have s7 : C7.size = C6.size + 1 := E7.out.2
  obtain ⟨C8, r8, E8⟩ := cat_ex C7 T4 (by omega)
  have s8 := E8.out.2
  obtain ⟨C9, r9, E9⟩ := cat_ex C8 T5 (by omega)
  have s9 := E9.out.2
  obtain ⟨D1, p1, F1⟩ := cat_ex C9 T6 (by omega)
  have s10 := F1.out.2
  obtain ⟨D2, p2, F2⟩ := cat_ex D1 ⟨#[10]⟩ (by show _ + 1 ≤ _; omega)
  have s11 : D2.size = D1.size + 1 := F2.out.2
  have HX : Hid (D2.data.toList = LL) := by
    rw [Hid, HL.out, F2.out.1, F1.out.1, E9.out.1, E8.out.1, E7.out.1, E6.out.1, E5.out.1, E4.out.1, E3.out.1, E2.out.1, E1.out.1]
  have HCV : Hid (∀ W : World, ∃ v w1, (convert 9 25 (.string D2)).run Tryd.prog W = .ok v w1 ∧ Src w1 W.heap.size v D2.data.toList ∧ Below W.heap.size W w1 ∧ W.heap.size < w1.heap.size) := fun W => conv_src W D2 (by unfold maxLen; omega)
  have HCC : Hid (∀ W, Below (w.heap.size + 1) (w.alloc (.cells #[.int .i64 q, .int .i64 a, .int .i64 k, .int .i64 n, .string m, .string t, .int .i64 c, .int .i64 u, .int .i64 d] 23)) W → W.cell? ⟨w.heap.size, 0, none⟩ = some (.int .i64 q) ∧ W.cell? ⟨w.heap.size, 1, none⟩ = some (.int .i64 a) ∧ W.cell? ⟨w.heap.size, 2, none⟩ = some (.int .i64 k) ∧ W.cell? ⟨w.heap.size, 3, none⟩ = some (.int .i64 n) ∧ W.cell? ⟨w.heap.size, 4, none⟩ = some (.string m) ∧ W.cell? ⟨w.heap.size, 5, none⟩ = some (.string t) ∧ W.cell? ⟨w.heap.size, 6, none⟩ = some (.int .i64 c) ∧ W.cell? ⟨w.heap.size, 7, none⟩ = some (.int .i64 u) ∧ W.cell? ⟨w.heap.size, 8, none⟩ = some (.int .i64 d)) := fun W b => by
    have N := (b.block w.heap.size (Nat.lt_succ_self _)).trans NA
    exact ⟨tblk_cell N rfl, tblk_cell N rfl, tblk_cell N rfl, tblk_cell N rfl, tblk_cell N rfl, tblk_cell N rfl, tblk_cell N rfl, tblk_cell N rfl, tblk_cell N rfl⟩
  clear s1 s2 s3 s4 s5 s6 s7 s8 s9 s10 s11 z0 z1 z2 z3 z4 z5 z6 E1 E2 E3 E4 E5 E6 E7 E8 E9 F1 F2 HL NA hm ht
  go_enter Tryd.func11, Tryd.ntmps11
  go_wp2_with fail
  obtain ⟨w1, hw1⟩ : ∃ w1, w1 = w.alloc (.cells #[.int .i64 q, .int .i64 a, .int .i64 k, .int .i64 n, .string m, .string t, .int .i64 c, .int .i64 u, .int .i64 d] 23) := ⟨_, rfl⟩
  have hs1 : w1.heap.size = w.heap.size + 1 := by rw [hw1]; simp
  rw [← hw1] at HCC BA ⊢
  have HSZ := hidV hs1
  have KS : Hid (Below w1.heap.size w1 w1.drew) := (Below.refl _ _).drew
  have HCC2 : Hid (∀ W, Hid (Below w1.heap.size w1 W) → _) := fun W b => HCC.out W (by rw [← HSZ.out]; exact b.out)
  have SS := HCC2.out _ KS
  have S0 := HCC2.out w1 (Below.refl _ _)
  clear hw1 hs1 HCC
  have HNX : Hid (∀ W V, Hid (Below w1.heap.size w1 W) → Below W.heap.size W V → Hid (Below w1.heap.size w1 V)) := fun W V b c => b.out.trans (c.mono b.out.size)
  go_region_held3 (fun W => W.cell? ⟨w.heap.size, 0, none⟩ = some (.int .i64 q) ∧ W.cell? ⟨w.heap.size, 1, none⟩ = some (.int .i64 a) ∧ W.cell? ⟨w.heap.size, 2, none⟩ = some (.int .i64 k) ∧ W.cell? ⟨w.heap.size, 3, none⟩ = some (.int .i64 n) ∧ W.cell? ⟨w.heap.size, 4, none⟩ = some (.string m) ∧ W.cell? ⟨w.heap.size, 5, none⟩ = some (.string t) ∧ W.cell? ⟨w.heap.size, 6, none⟩ = some (.int .i64 c) ∧ W.cell? ⟨w.heap.size, 7, none⟩ = some (.int .i64 u) ∧ W.cell? ⟨w.heap.size, 8, none⟩ = some (.int .i64 d)) (first | exact SS | exact S0 | go_keep) (first
    | (go_simp; go_at_call 26; refine Calls.mono (HQ.out _) ?_; rintro e W1 ⟨rfl, B1⟩; have KS := HNX.out _ _ KS B1; have SS := HCC2.out _ KS; clear HQ)
    | (go_simp; go_at_call 26; refine Calls.mono (HA.out _) ?_; rintro e W1 ⟨rfl, B1⟩; have KS := HNX.out _ _ KS B1; have SS := HCC2.out _ KS; clear HA)
    | (go_simp; go_at_call 26; refine Calls.mono (HK.out _) ?_; rintro e W1 ⟨rfl, B1⟩; have KS := HNX.out _ _ KS B1; have SS := HCC2.out _ KS; clear HK)
    | (go_simp; go_at_call 26; refine Calls.mono (HN.out _) ?_; rintro e W1 ⟨rfl, B1⟩; have KS := HNX.out _ _ KS B1; have SS := HCC2.out _ KS; clear HN)
    | (go_simp; go_at_call 26; refine Calls.mono (HC.out _) ?_; rintro e W1 ⟨rfl, B1⟩; have KS := HNX.out _ _ KS B1; have SS := HCC2.out _ KS; clear HC)
    | (go_simp; go_at_call 26; refine Calls.mono (HU.out _) ?_; rintro e W1 ⟨rfl, B1⟩; have KS := HNX.out _ _ KS B1; have SS := HCC2.out _ KS; clear HU)
    | (go_simp; go_at_call 27; refine Calls.mono (HD.out _) ?_; rintro e W1 ⟨rfl, B1⟩; have KS := HNX.out _ _ KS B1; have SS := HCC2.out _ KS; clear HD))
  obtain ⟨v, w9, hrun, hS, hB, hlt⟩ := HCV.out W1
  rw [HX.out] at hS
  have HS := hidV hS
  have HLT := hidV hlt
  have HB : Hid (Below w.heap.size w w9) := (BA.out.trans (KS.out.mono (by rw [HSZ.out]; omega))).trans (hB.mono (Nat.le_trans (by rw [HSZ.out]; omega) KS.out.size))
  clear hS hlt hB HCV HX KS SS S0 BA HSZ HNX HCC2 r1 r2 r3 r4 r5 r6 r7 r8 r9 p1
  go_wp2
  go_ret
  exact ⟨v, _, rfl, HS.out, HLT.out, HB.out⟩
end Go.Proofs.YtedncmbamjkacaaDoor

/- What the reference's reading of numbers answers of every text. -/
namespace Go.Proofs.YtedncmbamjkacaaDoor
open Go.RowKit
set_option linter.unusedVariables false

def isD (c : Int) : Bool := decide (48 ≤ c) && decide (c ≤ 57)
theorem rdigit_any (c : Int) (w : World) : Calls Tryd.prog 55 #[.int .u8 c] w fun e w' => e = .returned (.bool (isD c)) ∧ w' = w := by
  unfold isD
  by_cases a : 48 ≤ c
  · by_cases b : c ≤ 57
    · go_enter Tryd.func55, Tryd.ntmps55
      go_wp2
      go_ret
      exact ⟨ret_b (by simp [a, b]), rfl⟩
    · go_enter Tryd.func55, Tryd.ntmps55
      go_wp2
      go_ret
      exact ⟨ret_b (by simp [b]), rfl⟩
  · go_enter Tryd.func55, Tryd.ntmps55
    go_wp2
    go_ret
    exact ⟨ret_b (by simp; omega), rfl⟩

end Go.Proofs.YtedncmbamjkacaaDoor

/- The reference: what its Decimal answers of every text. -/
namespace Go.Proofs.YtedncmbamjkacaaDoor
open Go.RowKit
set_option linter.unusedVariables false

set_option maxHeartbeats 1000000 in
theorem rdecimal_any (s : ByteArray) (w : World) (hs : s.size ≤ maxLen) :
    Calls Tryd.prog 43 #[.string s] w fun e w' => e = .returned (.tuple #[.int .i64 (numI 10 18 s), .bool (numB 10 18 s)]) ∧ w' = w := by
  unfold maxLen at hs
  by_cases hz : (s.size : Int) < 1
  · have E : Hid (numI 10 18 s = 0 ∧ numB 10 18 s = false) := num_out (.inl (by omega))
    go_enter Tryd.func43, Tryd.ntmps43
    go_wp2
    go_ret2
    exact ⟨ret2_ib E.out.1.symm E.out.2.symm, rfl⟩
  · by_cases hm : (18 : Int) < (s.size : Int)
    · have E : Hid (numI 10 18 s = 0 ∧ numB 10 18 s = false) := num_out (.inr (by omega))
      go_enter Tryd.func43, Tryd.ntmps43
      go_wp2
      go_ret2
      exact ⟨ret2_ib E.out.1.symm E.out.2.symm, rfl⟩
    · have hout : Hid (¬ (s.size = 0 ∨ 18 < s.size)) := by rw [Hid]; omega
      go_enter Tryd.func43, Tryd.ntmps43
      go_wp2
      go_loop [4, 5] (fun vn vi => ∃ k n : Nat, k ≤ s.size ∧ vi = .int .i64 k ∧ vn = .int .i64 n ∧ Hid (vN 10 (s.data.toList.take k) = some n)) (fun _ vi => s.size - (intOf vi).toNat)
      case atStart => exact ⟨0, 0, Nat.zero_le _, rfl, rfl, rfl⟩
      case round =>
        obtain ⟨k, n, hk, rfl, rfl, hv⟩ := hrel
        by_cases hlt : k < s.size
        · have bd := byte_bd s[k]
          have hn : n < 100000000000000000 := vN_take_lt 10 17 (by decide) s k (by omega) n hv.out
          have HD : Hid (((dgN s[k] : Nat) : Int) = dgI (s[k].toNat : Int)) := dgN_cast s[k]
          by_cases hb : 48 ≤ (s[k].toNat : Int) ∧ (s[k].toNat : Int) ≤ 57
          · have E1 : Hid (dgI (s[k].toNat : Int) = (s[k].toNat : Int) - 48) := by rw [Hid, dgI, if_pos hb]
            have E : Hid (vN 10 (s.data.toList.take (k + 1)) = some (n * 10 + dgN s[k])) := vN_next 10 s k hlt n hv.out (by have := HD.out; have := E1.out; omega)
            have ED : Hid (isD (s[k].toNat : Int) = true) := by rw [Hid, isD]; simp; omega
            obtain ⟨b0, b1⟩ := hb
            go_wp2_with fail
            refine (rdigit_any _ _).mono ?_
            rw [ED.out]
            rintro e w' ⟨rfl, rfl⟩
            go_wp2
            go_round
            case rel => exact ⟨k + 1, n * 10 + dgN s[k], by omega, by go_num, by have h1 := HD.out; have h2 := E1.out; rw [Int.natCast_add, Int.natCast_mul, h1, h2]; rfl, E⟩
            case measure => simp [intOf]; omega
          · have E : Hid (numI 10 18 s = 0 ∧ numB 10 18 s = false) := num_bad (vN_bad_at 10 s k hlt (by have h1 := HD.out; unfold dgI at h1; rw [if_neg hb] at h1; split at h1 <;> (try split at h1) <;> omega))
            have ED : Hid (isD (s[k].toNat : Int) = false) := by rw [Hid, isD]; simp; omega
            clear hb
            go_wp2_with fail
            refine (rdigit_any _ _).mono ?_
            rw [ED.out]
            rintro e w' ⟨rfl, rfl⟩
            go_wp2
            go_ret2
            exact ⟨ret2_ib E.out.1.symm E.out.2.symm, rfl⟩
        · go_wp2
          go_ret2
          have hk' : k = s.size := by omega
          subst hk'
          have h := hv.out
          rw [List.take_of_length_le (by simp)] at h
          exact ⟨ret2_ib (num_ok hout.out h).1.symm (num_ok hout.out h).2.symm, rfl⟩

end Go.Proofs.YtedncmbamjkacaaDoor

/- The reference's Number. -/
namespace Go.Proofs.YtedncmbamjkacaaDoor
open Go.ChangeShapes Go.WideShapes Go.ChangeAt Go.RowKit
set_option linter.unusedVariables false

/-- A number that is told so. -/
def numOk (x : ByteArray) : Bool := numB 10 18 x && ((itoaS (numI 10 18 x)).toList == x.toList)
set_option maxRecDepth 100000 in
set_option maxHeartbeats 2000000 in
theorem r9number_any (x : ByteArray) (w : World) (hs : x.size ≤ 1048576) :
    Calls Tryd.prog 29 #[.string x] w fun e w' => e = .returned (.tuple #[.int .i64 (numI 10 18 x), .bool (numOk x)]) ∧ Below w.heap.size w w' := by
  have HD : Hid (∀ W, Calls Tryd.prog 43 #[.string x] W fun e w' => e = .returned (.tuple #[.int .i64 (numI 10 18 x), .bool (numB 10 18 x)]) ∧ w' = W) := fun W => rdecimal_any x W (by unfold maxLen; omega)
  have HT : Hid (∀ W, Calls Tryd.prog 27 #[.int .i64 (numI 10 18 x)] W fun e w' => e = .returned (.string (itoaS (numI 10 18 x))) ∧ Below W.heap.size W w') := fun W => rtext_pos _ (numI_bdT x).1 (by have := (numI_bdT x).2; omega) W
  have HO : Hid (numOk x = (numB 10 18 x && ((itoaS (numI 10 18 x)).toList == x.toList))) := rfl
  generalize numOk x = R at *
  generalize itoaS (numI 10 18 x) = t at *
  generalize numI 10 18 x = n at *
  cases hb : numB 10 18 x
  · rw [hb] at HD HO
    obtain rfl := HO.out
    clear HO HT
    go_enter Tryd.func29, Tryd.ntmps29
    go_wp2_with fail
    refine (HD.out _).mono ?_
    rintro e w1 ⟨rfl, rfl⟩
    go_wp2
    refine bodyPost_ret (v := .tuple #[.int .i64 n, .bool false]) (by simp [results, Tryd.results29, go_sem]) rfl ?_
    exact ⟨rfl, Below.refl _ _⟩
  · rw [hb] at HD HO
    cases hq : (t.toList == x.toList)
    · rw [hq] at HO
      obtain rfl := HO.out
      clear HO
      go_enter Tryd.func29, Tryd.ntmps29
      go_wp2_with fail
      refine (HD.out _).mono ?_
      rintro e w1 ⟨rfl, rfl⟩
      go_wp2_with fail
      refine (HT.out _).mono ?_
      rintro e w2 ⟨rfl, B2⟩
      go_wp2
      refine bodyPost_ret (v := .tuple #[.int .i64 n, .bool false]) (by simp [results, Tryd.results29, go_sem]) rfl ?_
      exact ⟨rfl, B2⟩
    · rw [hq] at HO
      obtain rfl := HO.out
      clear HO
      go_enter Tryd.func29, Tryd.ntmps29
      go_wp2_with fail
      refine (HD.out _).mono ?_
      rintro e w1 ⟨rfl, rfl⟩
      go_wp2_with fail
      refine (HT.out _).mono ?_
      rintro e w2 ⟨rfl, B2⟩
      go_wp2
      refine bodyPost_ret (v := .tuple #[.int .i64 n, .bool true]) (by simp [results, Tryd.results29, go_sem]) rfl ?_
      exact ⟨rfl, B2⟩
end Go.Proofs.YtedncmbamjkacaaDoor

/- The reference's Words. -/
namespace Go.Proofs.YtedncmbamjkacaaDoor
open Go.ChangeShapes Go.WideShapes Go.ChangeAt Go.RowKit
set_option linter.unusedVariables false

set_option maxRecDepth 100000 in
set_option maxHeartbeats 4000000 in
theorem r9words_any (s : ByteArray) (w : World) (hs : s.size ≤ 1048576) :
    Calls Tryd.prog 28 #[.string s] w fun e w' => ∃ ao cv, e = .returned (.slice ao (piecew s).length cv) ∧ OwnT w.heap.size w' (.slice ao (piecew s).length cv) (piecew s) ∧ Below w.heap.size w w' := by
  have O1 : OwnT w.heap.size (w.alloc (.cells #[] 9)) (.slice (some ⟨w.heap.size, 0, none⟩) 0 0) [] := OwnT.empty _ _ (Nat.le_refl _)
  go_enter Tryd.func28, Tryd.ntmps28
  go_wp2_with fail
  go_loopw [3, 4, 5] (fun v vf vi wr => ∃ (k f : Nat) (ps : List ByteArray) (ao : Option Addr) (cv : Nat), k ≤ s.size + 1 ∧ f ≤ k ∧ vi = .int .i64 k ∧ vf = .int .i64 f ∧ v = .slice ao ps.length cv ∧ ps.length ≤ k ∧ Hid (OwnT w.heap.size wr (.slice ao ps.length cv) ps) ∧ Hid (k ≤ s.size → ScanW s ps f k) ∧ Hid (k = s.size + 1 → ps = piecew s) ∧ Below w.heap.size w wr) (fun _ _ vi _ => s.size + 1 - (intOf vi).toNat)
  case atStart => exact ⟨0, 0, [], some ⟨w.heap.size, 0, none⟩, 0, Nat.zero_le _, Nat.le_refl _, rfl, rfl, rfl, Nat.le_refl _, O1, fun _ => ScanW.start s, (fun h => by omega), (Below.refl _ _).alloc (Nat.le_refl _) _⟩
  case round =>
    obtain ⟨k, f, ps, ao, cv, hk, hf, rfl, rfl, rfl, hkl, hown, hsc, hfi, hB⟩ := hrel
    clear O1
    by_cases hle : (k : Int) ≤ (s.size : Int)
    · have own3 := hown.out.keep ((Below.refl _ _).alloc (Nat.le_refl _) (.cells #[.string (s.extract f k)] 9))
      obtain ⟨v4, w4, r4, own4, B4⟩ := ownT_append own3 (one_txs wr (s.extract f k) _ (Nat.lt_succ_self _)) (by simp; omega) (by have := hB.size; simp; omega)
      have hB4 : Below w.heap.size w w4 := (hB.alloc hB.size _).trans B4
      obtain ⟨a4, c4, rfl, _⟩ := own4.form
      have HO4 : Hid (OwnT w.heap.size w4 (.slice a4 (ps ++ [s.extract f k]).length c4) (ps ++ [s.extract f k])) := own4
      have HRN : Hid ((Builtin.append_ #[52, 52] 52 #[.slice ao ps.length cv, .slice (some ⟨wr.heap.size, 0, none⟩) 1 1]).run Tryd.prog (wr.alloc (.cells #[.string (s.extract f k)] 9)) = .ok (.slice a4 (ps ++ [s.extract f k]).length c4) w4) := r4
      have HLE : Hid ((ps ++ [s.extract f k]).length = ps.length + 1) := by rw [Hid, List.length_append]; rfl
      clear own3 own4 B4 r4
      by_cases hend : k = s.size
      · subst hend
        have HF : Hid (ps ++ [s.extract f s.size] = piecew s) := (hsc.out (by omega)).fin
        clear hsc hfi hown
        generalize hps : ps ++ [s.extract f s.size] = ps2 at *
        have HPS : Hid (ps ++ [s.extract f s.size] = ps2) := hps
        clear hps
        go_wp2_with (at_builtin; refine wpList_append_run2 rfl _ _ 52 52 rfl _ _ _ w4 rfl rfl HRN.out ?_)
        go_roundw
        case rel => exact ⟨s.size + 1, s.size + 1, ps2, a4, c4, by omega, by omega, by go_num, by go_num, rfl, by rw [HLE.out]; omega, HO4, (fun h => by omega), (fun _ => HF.out), hB4⟩
        case measure => simp [intOf]
      · have hlt : k < s.size := by omega
        have hbe : ((k : Int) == (s.size : Int)) = false := beq_eq_false_iff_ne.2 (by omega)
        by_cases hc : (s[k].toNat : Int) = 32
        · have hc2 : s[k] = 32 := UInt8.toNat_inj.1 (show s[k].toNat = 32 by omega)
          have HC : Hid (k + 1 ≤ s.size → ScanW s (ps ++ [s.extract f k]) (k + 1) (k + 1)) := fun _ => (hsc.out (by omega)).cut hlt hc2
          clear hc2 hsc hfi hown
          generalize hps : ps ++ [s.extract f k] = ps2 at *
          have HPS : Hid (ps ++ [s.extract f k] = ps2) := hps
          clear hps
          go_wp2_with (at_builtin; refine wpList_append_run2 rfl _ _ 52 52 rfl _ _ _ w4 rfl rfl HRN.out ?_)
          go_roundw
          case rel => exact ⟨k + 1, k + 1, ps2, a4, c4, by omega, by omega, by go_num, by go_num, rfl, by rw [HLE.out]; omega, HO4, HC, (fun h => by omega), hB4⟩
          case measure => simp [intOf]; omega
        · have hc2 : s[k] ≠ 32 := fun e => hc (by rw [e]; rfl)
          have hcb : ((s[k].toNat : Int) == 32) = false := beq_eq_false_iff_ne.2 hc
          have HC : Hid (k + 1 ≤ s.size → ScanW s ps f (k + 1)) := fun _ => (hsc.out (by omega)).go hlt hc2
          clear hc2 HO4 HRN HLE hsc hfi
          go_wp2
          go_roundw
          case rel => exact ⟨k + 1, f, ps, ao, cv, by omega, by omega, by go_num, rfl, rfl, by omega, hown, HC, (fun h => by omega), hB⟩
          case measure => simp [intOf]; omega
    · have hke : k = s.size + 1 := by omega
      have HP := hfi.out hke
      subst HP
      go_wp2
      go_ret
      exact ⟨ao, cv, rfl, hown.out, hB⟩
end Go.Proofs.YtedncmbamjkacaaDoor

/- The document's records: what its Read finds is what the program's finds (plain). -/
namespace Go.Proofs.YtedncmbamjkacaaDoor
open Go.RowKit
set_option linter.unusedVariables false

theorem cutw_ne : ∀ (l acc : List UInt8), cutw acc l ≠ []
  | [], acc => by rw [cutw]; exact List.cons_ne_nil _ _
  | b :: l, acc => by
    rw [cutw]
    split
    · exact List.cons_ne_nil _ _
    · exact cutw_ne l _
theorem cutw_joinE : ∀ (l acc : List UInt8), Lib.join (cutw acc l) [32] = acc ++ l
  | [], acc => by rw [cutw, Lib.join_one, List.append_nil]
  | b :: l, acc => by
    by_cases hb : b = 32
    · rw [cutw, if_pos hb, Lib.join_cons]
      have k := cutw_joinE l []
      cases e : cutw [] l with
      | nil => exact absurd e (cutw_ne l [])
      | cons y r =>
        rw [e, Lib.join_cons, List.nil_append] at k
        rw [joinT_cons, k, hb]
    · rw [cutw, if_neg hb, cutw_joinE l]
      simp
/-- All but the last byte. -/
def bodyB (b : List UInt8) : ByteArray := ⟨b.dropLast.toArray⟩
def wsB (b : List UInt8) : List ByteArray := piecew (bodyB b)
def rOk (b : List UInt8) : Bool := (b.getLast? == some 10) && (decide ((wsB b).length = 9) && ((digW (wsB b)).all numOk && rightE (entW (wsB b))))
theorem piece_words {e : EntP} (h : rightE e = true) : wsB (lineL e) = wordsE e := by
  have hc := words_clean h
  have hd : (bodyB (lineL e)).data.toList = Lib.join ((wordsE e).map (·.data.toList)) [32] := by
    show (lineL e).dropLast.toArray.toList = _
    rw [join_data, List.dropLast_concat]
  have key : cutw [] (Lib.join ((wordsE e).map (·.data.toList)) [32]) = (wordsE e).map (·.data.toList) := by
    cases hw : (wordsE e).map (·.data.toList) with
    | nil => exact absurd (congrArg List.length hw) (by rw [List.length_map, wordsE_len]; decide)
    | cons x r =>
      rw [Lib.join_cons]
      have hm : ∀ y ∈ x :: r, (32 : UInt8) ∉ y := fun y hy => by
        rw [← hw] at hy
        obtain ⟨p, hp, rfl⟩ := List.mem_map.1 hy
        exact (hc p hp).2
      exact cutw_all r x (hm x List.mem_cons_self) (fun y hy => hm y (List.mem_cons_of_mem _ hy))
  have k := piecew_cuts (bodyB (lineL e))
  rw [hd, key] at k
  exact map_data_injW k
theorem ent_words {e : EntP} (h : rightE e = true) : entW (wordsE e) = e ∧ (digW (wordsE e)).all numOk = true := by
  obtain ⟨h1, _⟩ := right_bd h
  have nm : ∀ z ∈ numsE e, numI 10 18 (itoaS z) = z ∧ numB 10 18 (itoaS z) = true := fun z hz => itoa_num z (h1 z hz).1 (by have := (h1 z hz).2; omega)
  constructor
  · obtain ⟨q, a, k, n, m, t, c, u, d⟩ := e
    have n0 := (nm q (by unfold numsE; simp)).1
    have n1 := (nm a (by unfold numsE; simp)).1
    have n2 := (nm k (by unfold numsE; simp)).1
    have n3 := (nm n (by unfold numsE; simp)).1
    have n4 := (nm c (by unfold numsE; simp)).1
    have n5 := (nm u (by unfold numsE; simp)).1
    have n6 := (nm d (by unfold numsE; simp)).1
    show (⟨numI 10 18 (itoaS q), numI 10 18 (itoaS a), numI 10 18 (itoaS k), numI 10 18 (itoaS n), m, t, numI 10 18 (itoaS c), numI 10 18 (itoaS u), numI 10 18 (itoaS d)⟩ : EntP) = _
    rw [n0, n1, n2, n3, n4, n5, n6]
  · rw [List.all_eq_true]
    intro p hp
    have : digW (wordsE e) = (numsE e).map itoaS := rfl
    rw [this] at hp
    obtain ⟨z, hz, rfl⟩ := List.mem_map.1 hp
    unfold numOk
    rw [(nm z hz).1, (nm z hz).2, beq_self_eq_true]; rfl
theorem num_back {x : ByteArray} (h : numOk x = true) : itoaS (numI 10 18 x) = x := by
  unfold numOk at h
  simp only [Bool.and_eq_true, beq_iff_eq] at h
  have e := h.2
  rw [ByteArray.toList_eq, ByteArray.toList_eq] at e
  generalize itoaS (numI 10 18 x) = y at *
  cases x; cases y
  congr 1
  exact Array.toList_inj.1 e
theorem words_ent {ws : List ByteArray} (h9 : ws.length = 9) (h : (digW ws).all numOk = true) : wordsE (entW ws) = ws := by
  obtain ⟨a, b, c, d, e, f, g, i, j, rfl⟩ := nine h9
  have h0 := List.all_eq_true.1 h
  have n0 := num_back (h0 a (by simp [digW]))
  have n1 := num_back (h0 b (by simp [digW]))
  have n2 := num_back (h0 c (by simp [digW]))
  have n3 := num_back (h0 d (by simp [digW]))
  have n4 := num_back (h0 g (by simp [digW]))
  have n5 := num_back (h0 i (by simp [digW]))
  have n6 := num_back (h0 j (by simp [digW]))
  show [itoaS (numI 10 18 a), itoaS (numI 10 18 b), itoaS (numI 10 18 c), itoaS (numI 10 18 d), e, f, itoaS (numI 10 18 g), itoaS (numI 10 18 i), itoaS (numI 10 18 j)] = _
  rw [n0, n1, n2, n3, n4, n5, n6]
theorem rOk_line {e : EntP} (h : rightE e = true) : rOk (lineL e) = true ∧ entW (wsB (lineL e)) = e := by
  obtain ⟨e1, e2⟩ := ent_words h
  have hw := piece_words h
  refine ⟨?_, by rw [hw]; exact e1⟩
  unfold rOk
  rw [hw, e1, e2, h, decide_eq_true (wordsE_len e), join_data, List.getLast?_concat]
  rfl
theorem rOk_conv {b : List UInt8} (h : rOk b = true) : rightE (entW (wsB b)) = true ∧ lineL (entW (wsB b)) = b := by
  unfold rOk at h
  simp only [Bool.and_eq_true, decide_eq_true_eq, beq_iff_eq] at h
  obtain ⟨h1, h2, h3, h4⟩ := h
  refine ⟨h4, ?_⟩
  have hw := words_ent h2 h3
  rw [join_data, hw]
  have k : (wsB b).map (·.data.toList) = cutw [] b.dropLast := piecew_cuts (bodyB b)
  rw [k, cutw_joinE, List.nil_append]
  obtain ⟨p, hp⟩ := List.getLast?_eq_some_iff.1 h1
  rw [hp, List.dropLast_concat]
/-- What the document's Read finds. -/
theorem rOk_eq (b : List UInt8) : rOk b = okL b ∧ (rOk b = true → entW (wsB b) = valL b) := by
  cases h : rOk b with
  | true =>
    obtain ⟨h1, h2⟩ := rOk_conv h
    obtain ⟨k1, k2⟩ := read_back h1
    have e : lineB (entW (wsB b)) = ⟨b.toArray⟩ := by unfold lineB; rw [h2]
    rw [e] at k1 k2
    exact ⟨k1.symm, fun _ => k2.symm⟩
  | false =>
    refine ⟨?_, fun c => (by cases c)⟩
    cases g : okL b with
    | false => rfl
    | true =>
      obtain ⟨g1, g2⟩ := read_line (x := ⟨b.toArray⟩) g
      have := (rOk_line g1).1
      rw [g2] at this
      have e : (⟨b.toArray⟩ : ByteArray).data.toList = b := rfl
      rw [e, h] at this
      cases this
end Go.Proofs.YtedncmbamjkacaaDoor

/- The document's records: Read. -/
namespace Go.Proofs.YtedncmbamjkacaaDoor
open Go.RowKit
set_option linter.unusedVariables false

/-- A row of numbers of one's own. -/
def OwZ (B : Nat) (w : World) (v : Value) (l : List Int) : Prop := w.ownsRow B 3 1 v l.length (l.map (Value.int .i64))
theorem OwZ.keep {B : Nat} {w w' : World} {v : Value} {X : List Int} (h : OwZ B w v X) (b : Below w.heap.size w w') : OwZ B w' v X := by
  obtain ⟨h1, h2⟩ := h
  refine ⟨h1, ?_⟩
  rcases h2 with h2 | ⟨g, cap, cur, hv, hg, hh, r⟩
  · exact .inl h2
  · exact .inr ⟨g, cap, cur, hv, hg, (b.block g (Array.getElem?_eq_some_iff.1 hh).1).trans hh, r⟩
theorem OwZ.empty (B : Nat) (w : World) (hB : B ≤ w.heap.size) : OwZ B (w.alloc (.cells #[] 3)) (.slice (some ⟨w.heap.size, 0, none⟩) 0 0) [] :=
  ⟨rfl, .inr ⟨w.heap.size, 0, #[], rfl, hB, new_at _ _, Nat.le_refl _, by decide, rfl, rfl⟩⟩
theorem OwZ.at {B : Nat} {w : World} {v : Value} {l : List Int} (h : OwZ B w v l) (hp : 0 < l.length) : ∃ g c, v = .slice (some ⟨g, 0, none⟩) l.length c ∧ g < w.heap.size ∧ B ≤ g ∧ ∀ (j : Nat) z, l[j]? = some z → w.cell? ⟨g, j, none⟩ = some (.int .i64 z) := by
  have h0 := h
  obtain ⟨h1, ⟨h2, h3⟩ | ⟨g, c, cur, hv, hB, hg, hl, hm, hs, ht⟩⟩ := h
  · omega
  · refine ⟨g, c, hv, (Array.getElem?_eq_some_iff.1 hg).1, hB, fun j z hj => ?_⟩
    have k := (hv ▸ h0 : w.ownsRow B 3 1 (.slice (some ⟨g, 0, none⟩) l.length c) l.length (l.map (Value.int .i64))).cellAt j (by have := (List.getElem?_eq_some_iff.1 hj).1; omega)
    rw [k, List.getElem?_map, hj]; rfl
theorem owz_info : (Tryd.prog.info? 3).map (fun i => (i.zero, i.size, i.bytes)) = some (some (.int .i64 0), 1, 8) := by kernel_rfl
theorem owz_app {B : Nat} {w : World} {v : Value} {l : List Int} (h : OwZ B w v l) (hB : B ≤ w.heap.size) (p : Int) (hmax : l.length ≤ 1000) :
    ∃ a' c' w', (Builtin.append_ #[54, 54] 54 #[v, .slice (some ⟨w.heap.size, 0, none⟩) 1 1]).run Tryd.prog (w.alloc (.cells #[.int .i64 p] 3)) = .ok (.slice a' (l.length + 1) c') w' ∧ OwZ B w' (.slice a' (l.length + 1) c') (l ++ [p]) ∧ Below B w w' := by
  obtain ⟨i, hi, hz0, hz1, hz2⟩ := info_parts owz_info
  have BA : Below w.heap.size w (w.alloc (.cells #[.int .i64 p] 3)) := (Below.refl _ _).alloc (Nat.le_refl _) _
  have h' := h.keep BA
  have hB' := Nat.le_trans hB BA.size
  have hnew := new_at w (.cells #[.int .i64 p] 3)
  obtain ⟨v', w', hr, q1, q2, q3, q4⟩ := run_append_own_at (P := Tryd.prog) _ B 54 54 3 i (.int .i64 0) 1 8 Tryd.underlying54 hi hz0 hz1 hz2 rfl (by decide) v l.length (l.map (Value.int .i64)) h' ⟨w.heap.size, 0, none⟩ 1 1 [.int .i64 p] (by simp)
      (fun j u hj => by
        rw [addr_add, Nat.zero_add]
        refine ring_cell hnew ?_
        simpa using hj) (fun x hx => by rw [List.mem_singleton.1 hx]; rfl) (by unfold maxLen; omega) (by omega) hB'
  have O : OwZ B w' v' (l ++ [p]) := by
    unfold OwZ
    rw [List.length_append, List.map_append]; exact q1
  have hform : ∃ a' c', v' = .slice a' (l.length + 1) c' := by
    rcases q1.2 with ⟨h2, h3⟩ | ⟨g, c, cur, hv, _⟩
    · exact absurd h3 (by simp)
    · exact ⟨_, c, hv⟩
  obtain ⟨a', c', rfl⟩ := hform
  exact ⟨a', c', w', hr, O, (BA.mono hB).trans ((Below.refl _ _).grown q2 hB' (fun q hq => (h'.lt q hq).1))⟩
theorem results_ct {fn : Func} {t s : Tmp} {ty : TypeId} (h : fn.results = #[.cell t ty, .tmp s]) (tmps : Array Value) (P : Program) (w : World) (a : Addr) (x v : Value)
    (ha : tmps.getD t undef = .pointer (some a)) (hs : tmps.getD s undef = v) (hx : (loadVar ty a).run P w = .ok x w) :
    (results fn tmps).run P w = .ok (.tuple #[x, v]) w := by
  unfold results
  rw [h]
  rw [Array.getD_eq_getD_getElem?] at ha hs
  simp [ha, hs, asAddr, hx, Result.andThen]
theorem load_ent {W : World} {b : Nat} {x : EntP} (h : W.heap[b]? = some (.cells (entV x) 23)) : (loadVar 23 ⟨b, 0, none⟩).run Tryd.prog W = .ok (.agg (entV x)) W := by
  obtain ⟨c0, c1, c2, c3, c4, c5, c6, c7, c8⟩ : W.cell? ⟨b, 0, none⟩ = some (.int .i64 x.q) ∧ W.cell? ⟨b, 1, none⟩ = some (.int .i64 x.a) ∧ W.cell? ⟨b, 2, none⟩ = some (.int .i64 x.k) ∧ W.cell? ⟨b, 3, none⟩ = some (.int .i64 x.n) ∧ W.cell? ⟨b, 4, none⟩ = some (.string x.m) ∧ W.cell? ⟨b, 5, none⟩ = some (.string x.t) ∧ W.cell? ⟨b, 6, none⟩ = some (.int .i64 x.c) ∧ W.cell? ⟨b, 7, none⟩ = some (.int .i64 x.u) ∧ W.cell? ⟨b, 8, none⟩ = some (.int .i64 x.d) := ⟨tblk_cell h rfl, tblk_cell h rfl, tblk_cell h rfl, tblk_cell h rfl, tblk_cell h rfl, tblk_cell h rfl, tblk_cell h rfl, tblk_cell h rfl, tblk_cell h rfl⟩
  unfold entV
  simp [loadVar, go_sem, c0, c1, c2, c3, c4, c5, c6, c7, c8]
/-- Nine stores into the answer's block. -/
def Put9 (W : World) (b : Nat) (x : EntP) : World := ((((((((W.setCell ⟨b, 0, none⟩ (.int .i64 x.q)).setCell ⟨b, 1, none⟩ (.int .i64 x.a)).setCell ⟨b, 2, none⟩ (.int .i64 x.k)).setCell ⟨b, 3, none⟩ (.int .i64 x.n)).setCell ⟨b, 4, none⟩ (.string x.m)).setCell ⟨b, 5, none⟩ (.string x.t)).setCell ⟨b, 6, none⟩ (.int .i64 x.c)).setCell ⟨b, 7, none⟩ (.int .i64 x.u)).setCell ⟨b, 8, none⟩ (.int .i64 x.d)
theorem put9 {w W : World} {b : Nat} {z : EntP} (h : W.heap[b]? = some (.cells (entV z) 23)) (be : Below w.heap.size w W) (hb : w.heap.size ≤ b) (x : EntP) : (Put9 W b x).heap[b]? = some (.cells (entV x) 23) ∧ Below w.heap.size w (Put9 W b x) := by
  refine ⟨set9_blk h _ _ _ _ _ _ _ _ _, ?_⟩
  exact ((((((((be.setCell (p := ⟨b, 0, none⟩) hb _).setCell (p := ⟨b, 1, none⟩) hb _).setCell (p := ⟨b, 2, none⟩) hb _).setCell (p := ⟨b, 3, none⟩) hb _).setCell (p := ⟨b, 4, none⟩) hb _).setCell (p := ⟨b, 5, none⟩) hb _).setCell (p := ⟨b, 6, none⟩) hb _).setCell (p := ⟨b, 7, none⟩) hb _).setCell (p := ⟨b, 8, none⟩) hb _
theorem cell9z {W : World} {b : Nat} (h : W.heap[b]? = some (.cells (entV zeroE) 23)) : W.cell? ⟨b, 0, none⟩ = some (.int .i64 0) ∧ W.cell? ⟨b, 1, none⟩ = some (.int .i64 0) ∧ W.cell? ⟨b, 2, none⟩ = some (.int .i64 0) ∧ W.cell? ⟨b, 3, none⟩ = some (.int .i64 0) ∧ W.cell? ⟨b, 4, none⟩ = some (.string ⟨#[]⟩) ∧ W.cell? ⟨b, 5, none⟩ = some (.string ⟨#[]⟩) ∧ W.cell? ⟨b, 6, none⟩ = some (.int .i64 0) ∧ W.cell? ⟨b, 7, none⟩ = some (.int .i64 0) ∧ W.cell? ⟨b, 8, none⟩ = some (.int .i64 0) ∧ (∀ o, W.frozen? ⟨b, o, none⟩ = false) :=
  ⟨tblk_cell h rfl, tblk_cell h rfl, tblk_cell h rfl, tblk_cell h rfl, tblk_cell h rfl, tblk_cell h rfl, tblk_cell h rfl, tblk_cell h rfl, tblk_cell h rfl, fun o => by simp [World.frozen?, h]⟩
/-- The numbers that the loop gathers. -/
def nsL (ws : List ByteArray) : List Int := [numI 10 18 (ws.getD 0 ⟨#[]⟩), numI 10 18 (ws.getD 1 ⟨#[]⟩), numI 10 18 (ws.getD 2 ⟨#[]⟩), numI 10 18 (ws.getD 3 ⟨#[]⟩), 0, 0, numI 10 18 (ws.getD 6 ⟨#[]⟩), numI 10 18 (ws.getD 7 ⟨#[]⟩), numI 10 18 (ws.getD 8 ⟨#[]⟩)]
theorem nsL_at (ws : List ByteArray) {i : Nat} (hi : i < 9) (h4 : i ≠ 4) (h5 : i ≠ 5) : (nsL ws)[i]? = some (numI 10 18 (ws.getD i ⟨#[]⟩)) := by
  have : i = 0 ∨ i = 1 ∨ i = 2 ∨ i = 3 ∨ i = 6 ∨ i = 7 ∨ i = 8 := by omega
  rcases this with rfl | rfl | rfl | rfl | rfl | rfl | rfl <;> rfl
theorem nsL_lit (ws : List ByteArray) {i : Nat} (h : i = 4 ∨ i = 5) : (nsL ws)[i]? = some 0 := by rcases h with rfl | rfl <;> rfl
theorem take_s {α : Type} {L : List α} {k : Nat} {p : α} (h : L[k]? = some p) : L.take (k + 1) = L.take k ++ [p] := by rw [List.take_add_one, h]; rfl
theorem dig_all {ws : List ByteArray} (h9 : ws.length = 9) (h : ∀ j, j < 9 → j ≠ 4 → j ≠ 5 → numOk (ws.getD j ⟨#[]⟩) = true) : (digW ws).all numOk = true := by
  obtain ⟨a, b, c, d, e, f, g, i, j, rfl⟩ := nine h9
  have n0 := h 0 (by omega) (by omega) (by omega)
  have n1 := h 1 (by omega) (by omega) (by omega)
  have n2 := h 2 (by omega) (by omega) (by omega)
  have n3 := h 3 (by omega) (by omega) (by omega)
  have n6 := h 6 (by omega) (by omega) (by omega)
  have n7 := h 7 (by omega) (by omega) (by omega)
  have n8 := h 8 (by omega) (by omega) (by omega)
  simp at n0 n1 n2 n3 n6 n7 n8
  simp [digW, n0, n1, n2, n3, n6, n7, n8]
theorem dig_not {ws : List ByteArray} (h9 : ws.length = 9) {j : Nat} (hj : j < 9) (h4 : j ≠ 4) (h5 : j ≠ 5) (h : numOk (ws.getD j ⟨#[]⟩) = false) : (digW ws).all numOk = false := by
  obtain ⟨a, b, c, d, e, f, g, i, k, rfl⟩ := nine h9
  have : j = 0 ∨ j = 1 ∨ j = 2 ∨ j = 3 ∨ j = 6 ∨ j = 7 ∨ j = 8 := by omega
  rcases this with rfl | rfl | rfl | rfl | rfl | rfl | rfl <;> simp at h <;> simp [digW, h]
theorem rOk_no {b : List UInt8} (h : rOk b = false) : okL b = false ∧ valL b = zeroE := by
  have := (rOk_eq b).1
  rw [h] at this
  refine ⟨this.symm, ?_⟩
  have h2 : okR ⟨b.toArray⟩ = false := this.symm
  unfold valL valR
  rw [if_neg (by rw [h2]; decide)]
end Go.Proofs.YtedncmbamjkacaaDoor

/- The document's records: Read, its walk. -/
namespace Go.Proofs.YtedncmbamjkacaaDoor
open Go.RowKit
set_option linter.unusedVariables false

theorem cell_ltV {w : World} {p : Addr} {v : Value} (h : w.cell? p = some v) : p.block < w.heap.size := by
  unfold World.cell? at h
  rcases Nat.lt_or_ge p.block w.heap.size with c | c
  · exact c
  · simp [Array.getElem?_eq_none c] at h
theorem wrap64_nat (n : Nat) (h : n < 9223372036854775808) : wrap64 (n : Int) = (n : Int) := by unfold wrap64; omega
set_option maxRecDepth 100000 in
set_option maxHeartbeats 8000000 in
theorem r13read_any (b : List UInt8) (k : Nat) (a : Option Addr) (n c : Nat) (w : World) (hS : Src w k (.slice a n c) b) (hk : 0 < b.length → k < w.heap.size) (hn : b.length ≤ 1048576) :
    Calls Tryd.prog 12 #[.slice a n c] w fun r w' => r = .returned (.tuple #[.agg (entV (valL b)), .bool (okL b)]) ∧ Below w.heap.size w w' := by
  obtain rfl := hS.len.1.symm
  have NA : Hid ((w.alloc (.cells (entV zeroE) 23)).heap[w.heap.size]? = some (.cells (entV zeroE) 23)) := tblk_new _ _
  have BA : Hid (Below w.heap.size w (w.alloc (.cells (entV zeroE) 23))) := (Below.refl _ _).alloc (Nat.le_refl _) _
  have HNO : Hid (rOk b = false → ∀ W : World, W.heap[w.heap.size]? = some (.cells (entV zeroE) 23) → Below w.heap.size w W → (loadVar 23 ⟨w.heap.size, 0, none⟩).run Tryd.prog (Put9 W w.heap.size zeroE) = .ok (.agg (entV zeroE)) (Put9 W w.heap.size zeroE) ∧ Below w.heap.size w (Put9 W w.heap.size zeroE) ∧ valL b = zeroE ∧ okL b = false) := fun h W hW hB => by
    obtain ⟨e1, e2⟩ := rOk_no h
    obtain ⟨p1, p2⟩ := put9 hW hB (Nat.le_refl _) zeroE
    exact ⟨load_ent p1, p2, e2, e1⟩
  have HC9 : Hid (∀ W : World, W.heap[w.heap.size]? = some (.cells (entV zeroE) 23) → _) := fun W hW => cell9z (W := W) hW
  unfold Put9 at HNO
  rw [show entV zeroE = #[.int .i64 0, .int .i64 0, .int .i64 0, .int .i64 0, .string ⟨#[]⟩, .string ⟨#[]⟩, .int .i64 0, .int .i64 0, .int .i64 0] from rfl] at *
  simp only [zeroE] at HNO
  rcases List.eq_nil_or_concat b with hb | ⟨p, y, hb⟩
  · have h0 : rOk b = false := by rw [hb]; rfl
    have hl : b.length = 0 := by rw [hb]; rfl
    obtain ⟨e1, e2⟩ := rOk_no h0
    rw [e1, e2, hl]
    clear HNO HC9 h0 hS hk hn hb hl e1 e2 NA
    go_enter Tryd.func12, Tryd.ntmps12
    go_wp2
    refine bodyPost_ret (v := .tuple #[.agg #[.int .i64 0, .int .i64 0, .int .i64 0, .int .i64 0, .string ⟨#[]⟩, .string ⟨#[]⟩, .int .i64 0, .int .i64 0, .int .i64 0], .bool false]) (by simp [results, Tryd.results12, go_sem]) rfl ⟨rfl, BA.out⟩
  · have hl : b.length = p.length + 1 := by rw [hb]; simp
    have hp0 : 0 < b.length := by omega
    have hkl := hk hp0
    obtain ⟨a', c', ea, hc1, hc2, hf⟩ := hS
    obtain ⟨off, eo, hcell⟩ := hf hp0
    injection ea with ea1 ea2 ea3
    subst ea1 ea3
    subst eo
    have hlast : w.cell? ⟨k, off + p.length, none⟩ = some (.int .u8 (y.toNat : Int)) := by
      show _ = some (bv y)
      rw [hcell p.length (by omega)]
      congr 2
      simp [hb]
    have hgl : b.getLast? = some y := by rw [hb]; simp
    by_cases hy : y = 10
    · subst hy
      have hS2 : Src w k (.slice (some ⟨k, off, none⟩) b.length c) b := ⟨_, _, rfl, hc1, hc2, fun _ => ⟨off, rfl, hcell⟩⟩
      have hT := (hS2.below hkl BA.out).take (m := p.length) (by omega)
      have htk : b.take p.length = p := by rw [hb]; simp
      have hdl : b.dropLast = p := by rw [hb]; simp
      rw [htk] at hT
      have HCV : Hid ((convert 25 9 (.slice (some ⟨k, off, none⟩) p.length c)).run Tryd.prog (w.alloc (.cells #[.int .i64 0, .int .i64 0, .int .i64 0, .int .i64 0, .string ⟨#[]⟩, .string ⟨#[]⟩, .int .i64 0, .int .i64 0, .int .i64 0] 23)) = .ok (.string (bodyB b)) (w.alloc (.cells #[.int .i64 0, .int .i64 0, .int .i64 0, .int .i64 0, .string ⟨#[]⟩, .string ⟨#[]⟩, .int .i64 0, .int .i64 0, .int .i64 0] 23))) := by
        have := conv_all hT
        have e : (⟨p.toArray⟩ : ByteArray) = bodyB b := by unfold bodyB; rw [hdl]
        rwa [e] at this
      have hbs : (bodyB b).size ≤ 1048576 := by
        have : (bodyB b).size = p.length := by unfold bodyB; rw [hdl]; show p.toArray.size = _; rw [List.size_toArray]
        omega
      have hsz : ∀ x ∈ wsB b, x.size ≤ 1048576 := fun x hx => Nat.le_trans (piecew_size _ x hx) hbs
      have HWD : Hid (∀ W, Calls Tryd.prog 28 #[.string (bodyB b)] W fun e w' => ∃ ao cv, e = .returned (.slice ao (wsB b).length cv) ∧ OwnT W.heap.size w' (.slice ao (wsB b).length cv) (wsB b) ∧ Below W.heap.size W w') := fun W => r9words_any (bodyB b) W hbs
      have hrk : rOk b = (decide ((wsB b).length = 9) && ((digW (wsB b)).all numOk && rightE (entW (wsB b)))) := by
        unfold rOk
        rw [hgl]
        have : ((some (10 : UInt8) : Option UInt8) == some 10) = true := by decide
        rw [this]; rfl
      obtain ⟨hq1, hq2⟩ := rOk_eq b
      have HRK := hidV hrk
      have HRE := hidV hq1
      have HRV := hidV hq2
      have HSZ := hidV hsz
      have hlast2 : w.cell? ⟨k, off + p.length, none⟩ = some (.int .u8 10) := hlast
      clear hlast
      have hp1 : (p.length : Int) < 1048577 := by omega
      have m1 : wrap64 (p.length : Int) = (p.length : Int) := wrap64_nat _ (by omega)
      have m0 : ((p.length : Int) + 1 == 0) = false := by simp; omega
      have m2 : (0 : Int) ≤ (p.length : Int) := by omega
      have m3 : (p.length : Int) < (p.length : Int) + 1 := by omega
      have m4 : ((p.length : Int)).toNat = p.length := rfl
      have m5 : (p.length : Int) ≤ (c : Int) := by omega
      have hpl : p.length + 1 ≤ c := by omega
      have hcv := HCV.out
      rw [hl]
      generalize bodyB b = BB at *
      generalize wsB b = ws at *
      clear hk hn hb hl hcell hgl hp0 hS2 hT htk hdl hbs hsz hrk hq1 hq2 hf HCV
      generalize p.length = q at *
      go_enter Tryd.func12, Tryd.ntmps12
      go_wp2_with fail
      refine (HWD.out _).mono ?_
      rintro e w3 ⟨ao, cv, rfl, O3, B3⟩
      have hx3 := O3.txs
      have HN3 := hidV (tblk_below NA.out B3)
      have HB3 : Hid (Below w.heap.size w w3) := BA.out.trans (B3.mono BA.out.size)
      clear HWD O3 B3 NA BA hlast2 m0 m1 m2 m3 m4 m5 hpl hcv
      obtain ⟨y0, y1, y2, y3, y4, y5, y6, y7, y8, zz⟩ := HC9.out _ HN3.out
      have z0 := zz 0
      have z1 := zz 1
      have z2 := zz 2
      have z3 := zz 3
      have z4 := zz 4
      have z5 := zz 5
      have z6 := zz 6
      have z7 := zz 7
      have z8 := zz 8
      clear zz
      by_cases h9 : ws.length = 9
      · rw [h9]
        obtain ⟨gw', cw, ew, hx0, hcw, hxm, hfw⟩ := hx3
        clear hx0 hxm
        injection ew with ew1 ew2 ew3
        subst ew1 ew3
        obtain ⟨gw, ow, rfl, hgw, hwc⟩ := hfw (by omega)
        have HWC : Hid (∀ j, j < 9 → ∀ W, Below w3.heap.size w3 W → W.cell? ⟨gw, ow + j, none⟩ = some (.string (ws.getD j ⟨#[]⟩))) := fun j hj W hB => by
          rw [hB.cell (p := ⟨gw, ow + j, none⟩) hgw, hwc j (by omega)]
          congr 2
          rw [List.getD_eq_getElem?_getD, List.getElem?_eq_getElem (by omega)]; rfl
        have HS9 : Hid (∀ j, j < 9 → (ws.getD j ⟨#[]⟩).size ≤ 1048576) := fun j hj => by
          rw [List.getD_eq_getElem?_getD, List.getElem?_eq_getElem (by omega)]
          exact HSZ.out _ (List.getElem_mem _)
        have H9 := hidV h9
        have HO0 : Hid (OwZ w3.heap.size (w3.alloc (.cells #[] 3)) (.slice (some ⟨w3.heap.size, 0, none⟩) 0 0) []) := OwZ.empty _ _ (Nat.le_refl _)
        have hlt3 : w.heap.size < w3.heap.size := (Array.getElem?_eq_some_iff.1 HN3.out).1
        have HLT := hidV hlt3
        have HB0 : Hid (Below w3.heap.size w3 (w3.alloc (.cells #[] 3))) := (Below.refl _ _).alloc (Nat.le_refl _) _
        have h9c : (9 : Nat) ≤ cv := by omega
        clear hwc hfw hcw hgw h9 HSZ y0 y1 y2 y3 y4 y5 y6 y7 y8 z0 z1 z2 z3 z4 z5 z6 z7 z8 hlt3
        go_wp2_with fail
        go_loopw [5, 6] (fun v5 vi wr => ∃ (i : Nat) (a6 : Option Addr) (c6 : Nat), i ≤ 9 ∧ vi = .int .i64 i ∧ v5 = .slice a6 i c6 ∧ Hid (OwZ w3.heap.size wr (.slice a6 i c6) ((nsL ws).take i)) ∧ Hid (∀ j, j < i → j ≠ 4 → j ≠ 5 → numOk (ws.getD j ⟨#[]⟩) = true) ∧ Hid (Below w3.heap.size w3 wr)) (fun _ vi _ => 9 - (intOf vi).toNat)
        case atStart => exact ⟨0, _, _, Nat.zero_le _, rfl, rfl, HO0, fun j hj => absurd hj (Nat.not_lt_zero _), HB0⟩
        case round =>
          clear HO0 HB0
          obtain ⟨i, a6, c6, hi, rfl, rfl, HO, HI, HB⟩ := hrel
          by_cases hlt : i < 9
          · have hlen : ((nsL ws).take i).length = i := by rw [List.length_take]; show min i 9 = i; omega
            have HLEN := hidV hlen
            have hB3 := HB.out
            by_cases h45 : i = 4 ∨ i = 5
            · obtain ⟨a7, c7, w7, r7, O7, B7⟩ := owz_app HO.out HB.out.size 0 (by rw [hlen]; omega)
              rw [← take_s (nsL_lit ws h45)] at O7
              rw [hlen] at r7 O7
              have HO7 := hidV O7
              have HB7 : Hid (Below w3.heap.size w3 w7) := HB.out.trans B7
              have HI7 : Hid (∀ j, j < i + 1 → j ≠ 4 → j ≠ 5 → numOk (ws.getD j ⟨#[]⟩) = true) := fun j hj h4 h5 => HI.out j (by omega) h4 h5
              have hil : (i : Int) < 9 := by omega
              clear O7 B7 HO HB HI hlen HLEN hB3
              rcases h45 with rfl | rfl
              · go_wp2_with (at_builtin; refine wpList_append_run2 rfl _ _ 54 54 rfl _ _ _ w7 rfl rfl r7 ?_; clear r7)
                go_roundw
                case rel => exact ⟨5, _, _, by omega, by go_num, rfl, HO7, HI7, HB7⟩
                case measure => simp [intOf]
              · go_wp2_with (at_builtin; refine wpList_append_run2 rfl _ _ 54 54 rfl _ _ _ w7 rfl rfl r7 ?_; clear r7)
                go_roundw
                case rel => exact ⟨6, _, _, by omega, by go_num, rfl, HO7, HI7, HB7⟩
                case measure => simp [intOf]
            · have e4 : ((i : Int) == 4) = false := by simp; omega
              have e5 : ((i : Int) == 5) = false := by simp; omega
              have ec := HWC.out i hlt wr HB.out
              have HNM := hidV (fun W => r9number_any (ws.getD i ⟨#[]⟩) W (HS9.out i hlt))
              have hil : (i : Int) < 9 := by omega
              have hi0 : (0 : Int) ≤ i := by omega
              have HNV : Hid ((nsL ws)[i]? = some (numI 10 18 (ws.getD i ⟨#[]⟩))) := nsL_at ws hlt (by omega) (by omega)
              have HDN : Hid (numOk (ws.getD i ⟨#[]⟩) = false → rOk b = false) := fun h => by
                rw [HRK.out, dig_not H9.out hlt (by omega) (by omega) h, Bool.false_and, Bool.and_false]
              have HIN : Hid (numOk (ws.getD i ⟨#[]⟩) = true → ∀ j, j < i + 1 → j ≠ 4 → j ≠ 5 → numOk (ws.getD j ⟨#[]⟩) = true) := fun h j hj h4 h5 => by
                rcases Nat.lt_or_ge j i with l | l
                · exact HI.out j l h4 h5
                · obtain rfl : j = i := by omega
                  exact h
              generalize numOk (ws.getD i ⟨#[]⟩) = ok at *
              generalize numI 10 18 (ws.getD i ⟨#[]⟩) = nv at *
              generalize ws.getD i ⟨#[]⟩ = wd at *
              clear h45 HI hB3
              go_wp2_with fail
              refine (HNM.out _).mono ?_
              rintro e w5 ⟨rfl, B5⟩
              clear HNM ec
              cases ok with
              | false =>
                have hr0 := HDN.out rfl
                have HB5 : Hid (Below w3.heap.size w3 w5) := HB.out.trans (B5.mono HB.out.size)
                have N5 := tblk_below HN3.out HB5.out
                obtain ⟨l1, l2, l3, l4⟩ := HNO.out hr0 w5 N5 (HB3.out.trans (HB5.out.mono HB3.out.size))
                have HVE : Hid (valL b = zeroE ∧ okL b = false) := ⟨l3, l4⟩
                have HL1 := hidV l1
                have HL2 := hidV l2
                obtain ⟨y0, y1, y2, y3, y4, y5, y6, y7, y8, zz⟩ := HC9.out _ N5
                have z0 := zz 0
                have z1 := zz 1
                have z2 := zz 2
                have z3 := zz 3
                have z4 := zz 4
                have z5 := zz 5
                have z6 := zz 6
                have z7 := zz 7
                have z8 := zz 8
                clear zz l1 l2 l3 l4 hr0 HB5 N5 HIN HDN HNV HO HB HLEN hlen HNO HC9 HWC HS9 B5
                go_wp2
                refine bodyPost_ret (results_ct rfl _ _ _ ⟨w.heap.size, 0, none⟩ _ _ rfl rfl HL1.out) rfl ?_
                exact ⟨by rw [HVE.out.1, HVE.out.2]; rfl, HL2.out⟩
              | true =>
                have HI7 := hidV (HIN.out rfl)
                have O5 := HO.out.keep (B5)
                obtain ⟨a7, c7, w7, r7, O7, B7⟩ := owz_app O5 (Nat.le_trans HB.out.size B5.size) nv (by rw [hlen]; omega)
                rw [← take_s HNV.out] at O7
                rw [hlen] at r7 O7
                have HO7 := hidV O7
                have HB7 : Hid (Below w3.heap.size w3 w7) := (HB.out.trans (B5.mono HB.out.size)).trans B7
                clear HIN HDN HNV HO HB HLEN hlen O5 O7 B7 B5
                go_wp2_with (at_builtin; refine wpList_append_run2 rfl _ _ 54 54 rfl _ _ _ w7 rfl rfl r7 ?_; clear r7)
                go_roundw
                case rel => exact ⟨i + 1, _, _, by omega, by go_num, rfl, HO7, HI7, HB7⟩
                case measure => simp [intOf]; omega
          · obtain rfl : i = 9 := by omega
            have hlen : ((nsL ws).take 9) = nsL ws := List.take_length (l := nsL ws)
            have hO := HO.out
            rw [hlen] at hO
            obtain ⟨g, cg, eg, hg, hgB, hgc⟩ := hO.at (by show 0 < 9; omega)
            injection eg with eg1 eg2 eg3
            subst eg1 eg3
            clear eg2
            have g0 : wr.cell? ⟨g, 0, none⟩ = some (.int .i64 (numI 10 18 (ws.getD 0 ⟨#[]⟩))) := hgc 0 _ rfl
            have g1 : wr.cell? ⟨g, 1, none⟩ = some (.int .i64 (numI 10 18 (ws.getD 1 ⟨#[]⟩))) := hgc 1 _ rfl
            have g2 : wr.cell? ⟨g, 2, none⟩ = some (.int .i64 (numI 10 18 (ws.getD 2 ⟨#[]⟩))) := hgc 2 _ rfl
            have g3 : wr.cell? ⟨g, 3, none⟩ = some (.int .i64 (numI 10 18 (ws.getD 3 ⟨#[]⟩))) := hgc 3 _ rfl
            have g6 : wr.cell? ⟨g, 6, none⟩ = some (.int .i64 (numI 10 18 (ws.getD 6 ⟨#[]⟩))) := hgc 6 _ rfl
            have g7 : wr.cell? ⟨g, 7, none⟩ = some (.int .i64 (numI 10 18 (ws.getD 7 ⟨#[]⟩))) := hgc 7 _ rfl
            have g8 : wr.cell? ⟨g, 8, none⟩ = some (.int .i64 (numI 10 18 (ws.getD 8 ⟨#[]⟩))) := hgc 8 _ rfl
            have g4 := HWC.out 4 (by omega) wr HB.out
            have g5 := HWC.out 5 (by omega) wr HB.out
            have hgw : gw < wr.heap.size := by
              have := cell_ltV g4
              exact this
            have hs4 : (ws.getD 4 ⟨#[]⟩).size ≤ maxLen := Nat.le_trans (HS9.out 4 (by omega)) (by unfold maxLen; omega)
            have hs5 : (ws.getD 5 ⟨#[]⟩).size ≤ maxLen := Nat.le_trans (HS9.out 5 (by omega)) (by unfold maxLen; omega)
            have HRT := hidV (fun W => r13right_any (entW ws) W hs4 hs5)
            have hdig := dig_all H9.out HI.out
            have hrk : rOk b = rightE (entW ws) := by rw [HRK.out, H9.out, hdig]; simp
            have HRR := hidV hrk
            have he : Hid (entV (entW ws) = #[.int .i64 (numI 10 18 (ws.getD 0 ⟨#[]⟩)), .int .i64 (numI 10 18 (ws.getD 1 ⟨#[]⟩)), .int .i64 (numI 10 18 (ws.getD 2 ⟨#[]⟩)), .int .i64 (numI 10 18 (ws.getD 3 ⟨#[]⟩)), .string (ws.getD 4 ⟨#[]⟩), .string (ws.getD 5 ⟨#[]⟩), .int .i64 (numI 10 18 (ws.getD 6 ⟨#[]⟩)), .int .i64 (numI 10 18 (ws.getD 7 ⟨#[]⟩)), .int .i64 (numI 10 18 (ws.getD 8 ⟨#[]⟩))]) := rfl
            clear HO hO hlen HI hgc HWC HS9 H9 HRK hdig hrk hs4 hs5
            generalize entW ws = E at *
            generalize numI 10 18 (ws.getD 0 ⟨#[]⟩) = n0 at *
            generalize numI 10 18 (ws.getD 1 ⟨#[]⟩) = n1 at *
            generalize numI 10 18 (ws.getD 2 ⟨#[]⟩) = n2 at *
            generalize numI 10 18 (ws.getD 3 ⟨#[]⟩) = n3 at *
            generalize numI 10 18 (ws.getD 6 ⟨#[]⟩) = n6 at *
            generalize numI 10 18 (ws.getD 7 ⟨#[]⟩) = n7 at *
            generalize numI 10 18 (ws.getD 8 ⟨#[]⟩) = n8 at *
            generalize ws.getD 4 ⟨#[]⟩ = s4 at *
            generalize ws.getD 5 ⟨#[]⟩ = s5 at *
            go_wp2_with fail
            have hne1 := World.new_ne wr ⟨g, 0, none⟩ g0
            have hne2 := World.new_ne wr ⟨gw, ow + 4, none⟩ g4
            go_region_held3 (fun W => W.cell? ⟨g, 0, none⟩ = some (.int .i64 n0) ∧ W.cell? ⟨g, 1, none⟩ = some (.int .i64 n1) ∧ W.cell? ⟨g, 2, none⟩ = some (.int .i64 n2) ∧ W.cell? ⟨g, 3, none⟩ = some (.int .i64 n3) ∧ W.cell? ⟨gw, ow + 4, none⟩ = some (.string s4) ∧ W.cell? ⟨gw, ow + 5, none⟩ = some (.string s5) ∧ W.cell? ⟨g, 6, none⟩ = some (.int .i64 n6) ∧ W.cell? ⟨g, 7, none⟩ = some (.int .i64 n7) ∧ W.cell? ⟨g, 8, none⟩ = some (.int .i64 n8)) (go_keep) (first | fail)
            clear hne1 hne2 g0 g1 g2 g3 g4 g5 g6 g7 g8
            rw [he.out] at HRT
            have BE : Below wr.heap.size wr (wr.alloc (.cells #[.int .i64 n0, .int .i64 n1, .int .i64 n2, .int .i64 n3, .string s4, .string s5, .int .i64 n6, .int .i64 n7, .int .i64 n8] 23)) := (Below.refl _ _).alloc (Nat.le_refl _) _
            have NE : (wr.alloc (.cells #[.int .i64 n0, .int .i64 n1, .int .i64 n2, .int .i64 n3, .string s4, .string s5, .int .i64 n6, .int .i64 n7, .int .i64 n8] 23)).heap[wr.heap.size]? = some (.cells #[.int .i64 n0, .int .i64 n1, .int .i64 n2, .int .i64 n3, .string s4, .string s5, .int .i64 n6, .int .i64 n7, .int .i64 n8] 23) := tblk_new _ _
            obtain ⟨w6, hw6⟩ : ∃ w6, w6 = (wr.alloc (.cells #[.int .i64 n0, .int .i64 n1, .int .i64 n2, .int .i64 n3, .string s4, .string s5, .int .i64 n6, .int .i64 n7, .int .i64 n8] 23)).drew := ⟨_, rfl⟩
            have NE6 : w6.heap[wr.heap.size]? = some (.cells #[.int .i64 n0, .int .i64 n1, .int .i64 n2, .int .i64 n3, .string s4, .string s5, .int .i64 n6, .int .i64 n7, .int .i64 n8] 23) := by rw [hw6]; exact NE
            have HB6 : Hid (Below w3.heap.size w3 w6) := by rw [hw6]; exact (HB.out.trans (BE.mono HB.out.size)).drew
            rw [← hw6]
            clear hw6 BE NE HB
            have d0 : w6.cell? ⟨wr.heap.size, 0, none⟩ = some (.int .i64 n0) := tblk_cell NE6 rfl
            have d1 : w6.cell? ⟨wr.heap.size, 1, none⟩ = some (.int .i64 n1) := tblk_cell NE6 rfl
            have d2 : w6.cell? ⟨wr.heap.size, 2, none⟩ = some (.int .i64 n2) := tblk_cell NE6 rfl
            have d3 : w6.cell? ⟨wr.heap.size, 3, none⟩ = some (.int .i64 n3) := tblk_cell NE6 rfl
            have d4 : w6.cell? ⟨wr.heap.size, 4, none⟩ = some (.string s4) := tblk_cell NE6 rfl
            have d5 : w6.cell? ⟨wr.heap.size, 5, none⟩ = some (.string s5) := tblk_cell NE6 rfl
            have d6 : w6.cell? ⟨wr.heap.size, 6, none⟩ = some (.int .i64 n6) := tblk_cell NE6 rfl
            have d7 : w6.cell? ⟨wr.heap.size, 7, none⟩ = some (.int .i64 n7) := tblk_cell NE6 rfl
            have d8 : w6.cell? ⟨wr.heap.size, 8, none⟩ = some (.int .i64 n8) := tblk_cell NE6 rfl
            have HN6 := hidV NE6
            clear NE6 hg hgw hgB
            go_wp2_with fail
            refine (HRT.out _).mono ?_
            rintro r w7 ⟨rfl, B7⟩
            have HB7 : Hid (Below w3.heap.size w3 w7) := HB6.out.trans (B7.mono HB6.out.size)
            have N7 := tblk_below HN3.out HB7.out
            have HBW : Hid (Below w.heap.size w w7) := HB3.out.trans (HB7.out.mono HB3.out.size)
            have NE7 := tblk_below HN6.out B7
            obtain ⟨y0, y1, y2, y3, y4, y5, y6, y7, y8, zz⟩ := HC9.out _ N7
            have z0 := zz 0
            have z1 := zz 1
            have z2 := zz 2
            have z3 := zz 3
            have z4 := zz 4
            have z5 := zz 5
            have z6 := zz 6
            have z7 := zz 7
            have z8 := zz 8
            clear zz d0 d1 d2 d3 d4 d5 d6 d7 d8 HRT HB6 HB7 HN6 B7 HC9
            cases hR : rightE E with
            | false =>
              obtain ⟨l1, l2, l3, l4⟩ := HNO.out (HRR.out.trans hR) w7 N7 HBW.out
              have HVE : Hid (valL b = zeroE ∧ okL b = false) := ⟨l3, l4⟩
              have HL1 := hidV l1
              have HL2 := hidV l2
              clear l1 l2 l3 l4 hR HNO N7 HBW NE7 HRR HRE HRV he
              go_wp2
              refine bodyPost_ret (results_ct rfl _ _ _ ⟨w.heap.size, 0, none⟩ _ _ rfl rfl HL1.out) rfl ?_
              exact ⟨by rw [HVE.out.1, HVE.out.2]; rfl, HL2.out⟩
            | true =>
              have d0 : w7.cell? ⟨wr.heap.size, 0, none⟩ = some (.int .i64 n0) := tblk_cell NE7 rfl
              have d1 : w7.cell? ⟨wr.heap.size, 1, none⟩ = some (.int .i64 n1) := tblk_cell NE7 rfl
              have d2 : w7.cell? ⟨wr.heap.size, 2, none⟩ = some (.int .i64 n2) := tblk_cell NE7 rfl
              have d3 : w7.cell? ⟨wr.heap.size, 3, none⟩ = some (.int .i64 n3) := tblk_cell NE7 rfl
              have d4 : w7.cell? ⟨wr.heap.size, 4, none⟩ = some (.string s4) := tblk_cell NE7 rfl
              have d5 : w7.cell? ⟨wr.heap.size, 5, none⟩ = some (.string s5) := tblk_cell NE7 rfl
              have d6 : w7.cell? ⟨wr.heap.size, 6, none⟩ = some (.int .i64 n6) := tblk_cell NE7 rfl
              have d7 : w7.cell? ⟨wr.heap.size, 7, none⟩ = some (.int .i64 n7) := tblk_cell NE7 rfl
              have d8 : w7.cell? ⟨wr.heap.size, 8, none⟩ = some (.int .i64 n8) := tblk_cell NE7 rfl
              have hrt : rOk b = true := HRR.out.trans hR
              have HVE : Hid (valL b = E ∧ okL b = true) := ⟨(HRV.out hrt).symm, HRE.out.symm.trans hrt⟩
              obtain ⟨l1, l2⟩ := put9 (z := zeroE) N7 HBW.out (Nat.le_refl _) ⟨n0, n1, n2, n3, s4, s5, n6, n7, n8⟩
              have l3 := load_ent l1
              unfold Put9 at l2 l3
              simp only at l2 l3
              have HL1 := hidV l3
              have HL2 := hidV l2
              have HEE := he
              clear l1 l2 l3 hR HNO N7 HBW NE7 HRR HRE HRV he hrt
              go_wp2
              refine bodyPost_ret (results_ct rfl _ _ _ ⟨w.heap.size, 0, none⟩ _ _ rfl rfl HL1.out) rfl ?_
              exact ⟨by rw [HVE.out.1, HVE.out.2, HEE.out]; rfl, HL2.out⟩
      · have hr0 : rOk b = false := by rw [HRK.out, decide_eq_false h9]; rfl
        obtain ⟨l1, l2, l3, l4⟩ := HNO.out hr0 w3 HN3.out HB3.out
        have HVE : Hid (valL b = zeroE ∧ okL b = false) := ⟨l3, l4⟩
        have HL1 := hidV l1
        have HL2 := hidV l2
        have hne : ((ws.length : Int) != 9) = true := by rw [bne_iff_ne]; omega
        clear l1 l2 l3 l4 hr0 h9 HNO HC9 hx3 HRK HRE HRV HSZ
        generalize ws.length = nw at *
        go_wp2
        refine bodyPost_ret (results_ct rfl _ _ _ ⟨w.heap.size, 0, none⟩ _ _ rfl rfl HL1.out) rfl ?_
        exact ⟨by rw [HVE.out.1, HVE.out.2]; rfl, HL2.out⟩
    · have h0 : rOk b = false := by
        unfold rOk
        rw [hgl]
        have : ((some y : Option UInt8) == some 10) = false := by simp [hy]
        rw [this]; rfl
      obtain ⟨e1, e2⟩ := rOk_no h0
      have hyn : ((y.toNat : Int) != 10) = true := by
        rw [bne_iff_ne]
        intro e
        exact hy (UInt8.toNat_inj.1 (by show y.toNat = 10; omega))
      rw [e1, e2, hl]
      have hq1 : (p.length : Int) < 1048577 := by omega
      have m1 : wrap64 (p.length : Int) = (p.length : Int) := wrap64_nat _ (by omega)
      have m0 : ((p.length : Int) + 1 == 0) = false := by simp; omega
      have m2 : (0 : Int) ≤ (p.length : Int) := by omega
      have m3 : (p.length : Int) < (p.length : Int) + 1 := by omega
      have m4 : ((p.length : Int)).toNat = p.length := rfl
      have hpl : p.length + 1 ≤ c := by omega
      clear HNO HC9 h0 hk hn hb hl e1 e2 NA hcell hgl hp0 hy
      generalize p.length = q at *
      go_enter Tryd.func12, Tryd.ntmps12
      go_wp2
      refine bodyPost_ret (v := .tuple #[.agg #[.int .i64 0, .int .i64 0, .int .i64 0, .int .i64 0, .string ⟨#[]⟩, .string ⟨#[]⟩, .int .i64 0, .int .i64 0, .int .i64 0], .bool false]) (by simp [results, Tryd.results12, go_sem]) rfl ⟨rfl, BA.out⟩
end Go.Proofs.YtedncmbamjkacaaDoor

/- The document's records: All. -/
namespace Go.Proofs.YtedncmbamjkacaaDoor
open Go.RowKit
set_option linter.unusedVariables false

/-- Up to the byte i, from f on no line has ended. -/
structure LnI (b : List UInt8) (pre : List (List UInt8)) (f i : Nat) : Prop where
  e : linesL b = pre ++ lnA ((b.take i).drop f) (b.drop i)
  n : ∀ y ∈ (b.take i).drop f, y ≠ 10
  g : goodB pre = true
  f : f ≤ i
  l : pre.length ≤ i
theorem LnI.start (b : List UInt8) : LnI b [] 0 0 := ⟨by simp [linesL], fun y hy => by simp at hy, rfl, Nat.le_refl _, Nat.le_refl _⟩
theorem take_snocG {b : List UInt8} {i f : Nat} {y : UInt8} (hy : b[i]? = some y) (hf : f ≤ i) : (b.take (i + 1)).drop f = (b.take i).drop f ++ [y] := by
  have hi := (List.getElem?_eq_some_iff.1 hy).1
  rw [List.take_add_one, hy, List.drop_append_of_le_length (by rw [List.length_take]; omega)]; rfl
theorem drop_cons13 {b : List UInt8} {i : Nat} {y : UInt8} (hy : b[i]? = some y) : b.drop i = y :: b.drop (i + 1) := by
  obtain ⟨hi, e⟩ := List.getElem?_eq_some_iff.1 hy
  rw [List.drop_eq_getElem_cons hi, e]
theorem LnI.step {b : List UInt8} {pre : List (List UInt8)} {f i : Nat} {y : UInt8} (h : LnI b pre f i) (hy : b[i]? = some y) (h10 : y ≠ 10) : LnI b pre f (i + 1) := by
  refine ⟨?_, ?_, h.g, Nat.le_succ_of_le h.f, Nat.le_succ_of_le h.l⟩
  · rw [take_snocG hy h.f, h.e, drop_cons13 hy, lnA, if_neg h10]
  · rw [take_snocG hy h.f]
    intro z hz
    rcases List.mem_append.1 hz with e | e
    · exact h.n z e
    · rw [List.mem_singleton.1 e]; exact h10
theorem LnI.line {b : List UInt8} {pre : List (List UInt8)} {f i : Nat} (h : LnI b pre f i) (hy : b[i]? = some 10) : linesL b = (pre ++ [(b.take (i + 1)).drop f]) ++ lnA [] (b.drop (i + 1)) := by
  rw [h.e, drop_cons13 hy, lnA, if_pos rfl, take_snocG hy h.f]; simp
theorem LnI.next {b : List UInt8} {pre : List (List UInt8)} {f i : Nat} (h : LnI b pre f i) (hy : b[i]? = some 10) (hg : goodB (pre ++ [(b.take (i + 1)).drop f]) = true) : LnI b (pre ++ [(b.take (i + 1)).drop f]) (i + 1) (i + 1) := by
  have e : (b.take (i + 1)).drop (i + 1) = [] := by rw [List.drop_eq_nil_of_le]; rw [List.length_take]; omega
  refine ⟨?_, ?_, hg, Nat.le_refl _, by rw [List.length_append]; have := h.l; simp; omega⟩
  · rw [h.line hy, e]
  · rw [e]; intro z hz; cases hz
theorem LnI.end0 {b : List UInt8} {pre : List (List UInt8)} {f : Nat} (h : LnI b pre f b.length) (hf : ¬ f < b.length) : linesL b = pre := by
  have e : (b.take b.length).drop f = [] := by rw [List.drop_eq_nil_of_le]; rw [List.length_take]; omega
  rw [h.e, e, List.drop_length, lnA, if_pos rfl, List.append_nil]
theorem LnI.end1 {b : List UInt8} {pre : List (List UInt8)} {f : Nat} (h : LnI b pre f b.length) (hf : f < b.length) : linesL b = pre ++ [b.drop f] ∧ okL (b.drop f) = false := by
  have e : (b.take b.length).drop f = b.drop f := by rw [List.take_length]
  have hne : b.drop f ≠ [] := by
    intro c
    have := congrArg List.length c
    rw [List.length_drop] at this
    simp at this
    omega
  refine ⟨by rw [h.e, e, List.drop_length, lnA, if_neg hne], ?_⟩
  rw [← (rOk_eq _).1]
  unfold rOk
  obtain ⟨y, hy⟩ : ∃ y, (b.drop f).getLast? = some y := ⟨_, List.getLast?_eq_some_getLast hne⟩
  have hm := List.mem_of_getLast? hy
  rw [← e] at hm
  have := h.n y hm
  rw [hy]
  have h2 : ((some y : Option UInt8) == some 10) = false := by simp [this]
  rw [h2]; rfl
/-- The row's block, and the parameter. -/
theorem all_badV {w : World} {b : List UInt8} {pre : List (List UInt8)} {f i : Nat} {W : World} (h : LnI b pre f i) (hy : b[i]? = some 10) (hb : goodB (pre ++ [(b.take (i + 1)).drop f]) = false) (z : Int) (hz : z = if okL ((b.take (i + 1)).drop f) = true then 1 else 20) (B : Below w.heap.size w W) : AllR w b (.returned (.tuple #[.slice none 0 0, .int .i64 z])) W :=
  ⟨B, .inr ⟨pre, _, by rw [h.line hy]; exact List.prefix_append _ _, h.g, hb, by rw [hz]⟩⟩
set_option maxRecDepth 100000 in
set_option maxHeartbeats 8000000 in
theorem r13all_any (b : List UInt8) (k : Nat) (a : Option Addr) (n c : Nat) (w : World) (hS : Src w k (.slice a n c) b) (hk : 0 < b.length → k < w.heap.size) (hn : b.length ≤ 1048576) :
    Calls Tryd.prog 14 #[.slice a n c] w (AllR w b) := by
  obtain rfl := hS.len.1.symm
  have HSR : Hid (∀ W, Below w.heap.size w W → Src W k (.slice a b.length c) b) := fun W bW => hS.keep hk bW
  have HSZ : Hid (b.length ≤ c ∧ c ≤ maxLen) := by
    obtain ⟨a', c', e, h1, h2, _⟩ := hS
    injection e with e1 e2 e3
    subst e3
    exact ⟨h1, h2⟩
  have HK := hidV hk
  have HBN : Hid (b.length ≤ 1048576) := hn
  have HO0 : Hid (OwnE w.heap.size (w.alloc (.cells #[] 23)) (.slice (some ⟨w.heap.size, 0, none⟩) 0 0) []) := ⟨rfl, .inr ⟨w.heap.size, 0, #[], rfl, Nat.le_refl _, tblk_new _ _, Nat.le_refl _, by decide, rfl, rfl⟩⟩
  have HB0 : Hid (Below w.heap.size w (w.alloc (.cells #[] 23))) := (Below.refl _ _).alloc (Nat.le_refl _) _
  obtain ⟨n, hn'⟩ : ∃ n, n = b.length := ⟨_, rfl⟩
  have HNN := hidV hn'
  rw [← hn'] at HSR HSZ hn ⊢
  have hnc := HSZ.out.1
  clear hS hk hn'
  go_enter Tryd.func14, Tryd.ntmps14
  go_wp2_with fail
  go_loopw [4, 5, 6] (fun v4 v5 vi wr => ∃ (i f m : Nat) (pre : List (List UInt8)) (a6 : Option Addr) (c6 : Nat), i ≤ n ∧ vi = .int .i64 i ∧ v5 = .int .i64 f ∧ v4 = .slice a6 m c6 ∧ Hid (m = (pre.map valL).length) ∧ Hid (OwnE w.heap.size wr (.slice a6 m c6) (pre.map valL)) ∧ Hid (LnI b pre f i) ∧ Hid (Below w.heap.size w wr)) (fun _ _ vi _ => n - (intOf vi).toNat)
  case atStart => exact ⟨0, 0, 0, [], _, _, Nat.zero_le _, rfl, rfl, rfl, rfl, HO0, LnI.start b, HB0⟩
  case round =>
    clear HO0 HB0
    obtain ⟨i, f, m, pre, a6, c6, hi, rfl, rfl, rfl, HM, HO, HI, HB⟩ := hrel
    by_cases hlt : i < n
    · obtain ⟨y, hy⟩ : ∃ y, b[i]? = some y := ⟨b[i]'(by rw [← HNN.out]; exact hlt), List.getElem?_eq_getElem _⟩
      have hsw := HSR.out wr HB.out
      obtain ⟨a', c', ea, _, _, hf⟩ := hsw
      obtain ⟨off, eo, hcell⟩ := hf (by rw [← HNN.out]; omega)
      injection ea with ea1 ea2 ea3
      subst ea1 ea3
      subst eo
      have hcl : wr.cell? ⟨k, off + i, none⟩ = some (.int .u8 (y.toNat : Int)) := by
        rw [hcell i (by rw [← HNN.out]; exact hlt)]
        have e : b[i]'(by rw [← HNN.out]; exact hlt) = y := (List.getElem?_eq_some_iff.1 hy).2
        show some (bv _) = some (bv y)
        rw [e]
      have hil : (i : Int) < (n : Int) := by omega
      have hi0 : (0 : Int) ≤ (i : Int) := by omega
      have HY := hidV hy
      clear hcell hf ea2 hy
      by_cases h10 : y = 10
      · subst h10
        have hcl2 : wr.cell? ⟨k, off + i, none⟩ = some (.int .u8 10) := hcl
        have hfi := HI.out.f
        have w1 : wrap64 ((i : Int) + 1) = (i : Int) + 1 := by have := wrap64_nat (i + 1) (by omega); simpa using this
        have f1 : (f : Int) ≤ (i : Int) + 1 := by omega
        have f2 : (i : Int) + 1 ≤ (c : Int) := by omega
        have f3 : (0 : Int) ≤ (f : Int) := by omega
        have f4 : ¬ c = f := by omega
        clear hcl
        go_wp2_with fail
        have hsx := ((HSR.out wr HB.out).take (m := i + 1) (by rw [← HNN.out]; omega)).cut (m := f) (a' := some ⟨k, off + f, none⟩) (by rw [List.length_take, ← HNN.out]; omega) (fun _ => by simp [Addr.add])
        have hkw : k < wr.heap.size := Nat.lt_of_lt_of_le (HK.out (by rw [← HNN.out]; omega)) HB.out.size
        have hxl : ((b.take (i + 1)).drop f).length ≤ 1048576 := by rw [List.length_drop, List.length_take, ← HNN.out]; omega
        have HRD := hidV (r13read_any _ k _ _ _ wr hsx (fun _ => hkw) hxl)
        have HBAD : Hid (goodB (pre ++ [(b.take (i + 1)).drop f]) = false → ∀ z, z = (if okL ((b.take (i + 1)).drop f) = true then (1 : Int) else 20) → ∀ W, Below w.heap.size w W → AllR w b (.returned (.tuple #[.slice none 0 0, .int .i64 z])) W) := fun hb z hz W B => all_badV HI.out HY.out hb z hz B
        have HNX : Hid (goodB (pre ++ [(b.take (i + 1)).drop f]) = true → LnI b (pre ++ [(b.take (i + 1)).drop f]) (i + 1) (i + 1)) := fun hg => HI.out.next HY.out hg
        have HGS : Hid (goodB (pre ++ [(b.take (i + 1)).drop f]) = (okL ((b.take (i + 1)).drop f) && lastQ (pre.map valL) (valL ((b.take (i + 1)).drop f)))) := by rw [Hid, good_snoc, HI.out.g, Bool.true_and]
        have hlb := fun (t : Nat) (ht : t < (pre.map valL).length) => lastq_bd HI.out.g t ht
        have hpl := HI.out.l
        clear hsx hxl hkw
        generalize (b.take (i + 1)).drop f = x at *
        obtain ⟨E, hE⟩ : ∃ E, E = valL x := ⟨_, rfl⟩
        have HE := hidV hE
        rw [← hE] at HRD HGS
        generalize okL x = ok at *
        clear hE
        obtain ⟨eq, ea, ek, en, em, et, ec, eu, ed⟩ := E
        unfold entV at HRD
        simp only at HRD
        refine HRD.out.mono ?_
        rintro r w5 ⟨rfl, B5⟩
        have HB5 : Hid (Below w.heap.size w w5) := HB.out.trans (B5.mono HB.out.size)
        have O5 := HO.out.kept (N := w.heap.size) (V := w5) (KpC.below B5)
        have HO5 := hidV O5
        clear HRD O5 B5 HO HB hcl2 w1 f1 f2 f3 f4 hfi HI HY
        cases ok with
        | false =>
          have HZ : Hid (∀ W, Below w.heap.size w W → AllR w b (.returned (.tuple #[.slice none 0 0, .int .i64 20])) W) := HBAD.out (by rw [HGS.out]; rfl) 20 rfl
          have HB6 : Hid (Below w.heap.size w (w5.alloc (.cells #[.int .i64 eq, .int .i64 ea, .int .i64 ek, .int .i64 en, .string em, .string et, .int .i64 ec, .int .i64 eu, .int .i64 ed] 23))) := HB5.out.alloc HB5.out.size _
          clear HBAD HNX HGS hlb HO5 HB5 HM HE HSR HK HSZ HBN HNN
          go_wp2
          refine bodyPost_ret (v := .tuple #[.slice none 0 0, .int .i64 20]) (by simp [results, Tryd.results14, go_sem]) rfl ?_
          exact HZ.out _ HB6.out
        | true =>
          have NE := tblk_new w5 (.cells #[.int .i64 eq, .int .i64 ea, .int .i64 ek, .int .i64 en, .string em, .string et, .int .i64 ec, .int .i64 eu, .int .i64 ed] 23)
          have BE : Below w5.heap.size w5 (w5.alloc (.cells #[.int .i64 eq, .int .i64 ea, .int .i64 ek, .int .i64 en, .string em, .string et, .int .i64 ec, .int .i64 eu, .int .i64 ed] 23)) := (Below.refl _ _).alloc (Nat.le_refl _) _
          have HB6 : Hid (Below w.heap.size w (w5.alloc (.cells #[.int .i64 eq, .int .i64 ea, .int .i64 ek, .int .i64 en, .string em, .string et, .int .i64 ec, .int .i64 eu, .int .i64 ed] 23))) := HB5.out.trans (BE.mono HB5.out.size)
          have HO6 : Hid (OwnE w.heap.size (w5.alloc (.cells #[.int .i64 eq, .int .i64 ea, .int .i64 ek, .int .i64 en, .string em, .string et, .int .i64 ec, .int .i64 eu, .int .i64 ed] 23)) (.slice a6 m c6) (pre.map valL)) := HO5.out.kept (KpC.below BE)
          have HEV : Hid ((pre.map valL) ++ [⟨eq, ea, ek, en, em, et, ec, eu, ed⟩] = (pre ++ [x]).map valL) := by rw [Hid, List.map_append, List.map_cons, List.map_nil, ← HE.out]
          have HML : Hid ((pre.map valL).length ≤ 1048576) := by show _ ≤ _; rw [List.length_map]; omega
          generalize pre.map valL = es at *
          have HM2 := HM
          clear HO5 HB5 BE
          rcases Nat.eq_zero_or_pos m with hm0 | hm0
          · subst hm0
            have hes : es = [] := List.length_eq_zero_iff.1 HM.out.symm
            have HG7 : Hid (goodB (pre ++ [x]) = true) := by rw [Hid, HGS.out, hes]; rfl
            clear HBAD HGS hlb hes
            go_wp2_with fail
            go_quiet (fail)
            have BQ : Below (w5.alloc (.cells #[.int .i64 eq, .int .i64 ea, .int .i64 ek, .int .i64 en, .string em, .string et, .int .i64 ec, .int .i64 eu, .int .i64 ed] 23)).heap.size (w5.alloc (.cells #[.int .i64 eq, .int .i64 ea, .int .i64 ek, .int .i64 en, .string em, .string et, .int .i64 ec, .int .i64 eu, .int .i64 ed] 23)) ((w5.alloc (.cells #[.int .i64 eq, .int .i64 ea, .int .i64 ek, .int .i64 en, .string em, .string et, .int .i64 ec, .int .i64 eu, .int .i64 ed] 23)).drewN nq) := ⟨rfl, rfl, rfl, Nat.le_refl _, fun _ _ => rfl⟩
            obtain ⟨w6, hw6⟩ : ∃ w6, w6 = ((w5.alloc (.cells #[.int .i64 eq, .int .i64 ea, .int .i64 ek, .int .i64 en, .string em, .string et, .int .i64 ec, .int .i64 eu, .int .i64 ed] 23)).drewN nq) := ⟨_, rfl⟩
            have NE6 : w6.heap[w5.heap.size]? = some (.cells #[.int .i64 eq, .int .i64 ea, .int .i64 ek, .int .i64 en, .string em, .string et, .int .i64 ec, .int .i64 eu, .int .i64 ed] 23) := by rw [hw6]; exact NE
            have BQ6 : Below (w5.alloc (.cells #[.int .i64 eq, .int .i64 ea, .int .i64 ek, .int .i64 en, .string em, .string et, .int .i64 ec, .int .i64 eu, .int .i64 ed] 23)).heap.size (w5.alloc (.cells #[.int .i64 eq, .int .i64 ea, .int .i64 ek, .int .i64 en, .string em, .string et, .int .i64 ec, .int .i64 eu, .int .i64 ed] 23)) w6 := by rw [hw6]; exact BQ
            rw [← hw6]
            clear hw6 BQ NE
            have O8 := HO6.out.kept (N := w.heap.size) (V := w6) (KpC.below BQ6)
            have B8 : Below w.heap.size w w6 := HB6.out.trans (BQ6.mono HB6.out.size)
            have BA8 : Below w6.heap.size w6 (w6.alloc (.cells #[.int .i64 eq, .int .i64 ea, .int .i64 ek, .int .i64 en, .string em, .string et, .int .i64 ec, .int .i64 eu, .int .i64 ed] 23)) := (Below.refl _ _).alloc (Nat.le_refl _) _
            obtain ⟨g', c7, w7, r7, O7, G7, hg7⟩ := ownE_append (O8.kept (KpC.below BA8)) ⟨eq, ea, ek, en, em, et, ec, eu, ed⟩ ⟨w6.heap.size, 0, none⟩ (fun i u hi => by rw [addr_add, Nat.zero_add]; exact ring_cell (tblk_new _ _) hi) HML.out (Nat.le_trans B8.size BA8.size)
            have B7 : Below w.heap.size w w7 := (B8.trans (BA8.mono B8.size)).grown G7 (Nat.le_trans B8.size BA8.size) (fun q hq => (World.ownsRow.lt O8 q hq).1)
            rw [← HM2.out] at r7 O7
            have HO7 := hidV O7
            have HB7 := hidV B7
            have HI7 := hidV (HNX.out HG7.out)
            clear O8 B8 BA8 O7 G7 B7 hg7 BQ6
            have d0 : w6.cell? ⟨w5.heap.size, 0, none⟩ = some (.int .i64 eq) := tblk_cell NE6 rfl
            have d1 : w6.cell? ⟨w5.heap.size, 1, none⟩ = some (.int .i64 ea) := tblk_cell NE6 rfl
            have d2 : w6.cell? ⟨w5.heap.size, 2, none⟩ = some (.int .i64 ek) := tblk_cell NE6 rfl
            have d3 : w6.cell? ⟨w5.heap.size, 3, none⟩ = some (.int .i64 en) := tblk_cell NE6 rfl
            have d4 : w6.cell? ⟨w5.heap.size, 4, none⟩ = some (.string em) := tblk_cell NE6 rfl
            have d5 : w6.cell? ⟨w5.heap.size, 5, none⟩ = some (.string et) := tblk_cell NE6 rfl
            have d6 : w6.cell? ⟨w5.heap.size, 6, none⟩ = some (.int .i64 ec) := tblk_cell NE6 rfl
            have d7 : w6.cell? ⟨w5.heap.size, 7, none⟩ = some (.int .i64 eu) := tblk_cell NE6 rfl
            have d8 : w6.cell? ⟨w5.heap.size, 8, none⟩ = some (.int .i64 ed) := tblk_cell NE6 rfl
            rw [HEV.out] at HO7
            have HM7 : Hid ((0 + 1) = ((pre ++ [x]).map valL).length) := by rw [Hid, ← HEV.out, List.length_append, ← HM2.out]; rfl
            have wi : wrap64 ((i : Int) + 1) = (i : Int) + 1 := by have := wrap64_nat (i + 1) (by omega); simpa using this
            clear NE6 HNX HEV HG7 HML HM2 HO6 HB6 HE
            go_wp2_with (at_builtin; refine wpList_append_run2 rfl _ _ 36 36 rfl _ _ _ w7 rfl rfl r7 ?_; clear r7)
            go_roundw
            case rel => exact ⟨i + 1, i + 1, (0 + 1), pre ++ [x], _, _, by omega, by go_num, by go_num, rfl, HM7, HO7, HI7, HB7⟩
            case measure => simp [intOf]; omega
          · obtain ⟨p, rfl⟩ : ∃ p, m = p + 1 := ⟨m - 1, by omega⟩
            have hpl2 : p < es.length := by rw [← HM.out]; omega
            obtain ⟨g, cg, eg, hgN, hgc⟩ := HO6.out.seq p hpl2
            have hlb2 := hlb p hpl2
            have hlq : lastQ es ⟨eq, ea, ek, en, em, et, ec, eu, ed⟩ = decide (eq = es[p].q + 1) := by
              unfold lastQ
              rw [List.getLast?_eq_getElem?, List.getElem?_eq_getElem (by omega)]
              have : es.length - 1 = p := by rw [← HM.out]; omega
              simp only [this]
            generalize es[p].q = lq at *
            injection eg with eg1 eg2 eg3
            subst eg1 eg3
            clear eg2 hpl2 hlb
            have q1 : wrap64 (lq + 1) = lq + 1 := by unfold wrap64; omega
            have q2 : (p : Int) < (p : Int) + 1 := by omega
            have q3 : (0 : Int) ≤ (p : Int) := by omega
            have q4 : wrap64 (p : Int) = (p : Int) := wrap64_nat _ (by have := HML.out; have := HM.out; omega)
            have q5 : (0 : Int) < (p : Int) + 1 := Int.lt_add_one_of_le q3
            by_cases hq : eq = lq + 1
            · have hd : (lq + 1 != eq) = false := by rw [hq, bne_self_eq_false]
              have HG7 : Hid (goodB (pre ++ [x]) = true) := by rw [Hid, HGS.out, hlq, decide_eq_true hq]; rfl
              clear HBAD HGS hlq hq
              go_wp2_with fail
              go_quiet (fail)
              clear hgc hgN hlb2 q1 q2 q3 q4 q5 hd
              have BQ : Below (w5.alloc (.cells #[.int .i64 eq, .int .i64 ea, .int .i64 ek, .int .i64 en, .string em, .string et, .int .i64 ec, .int .i64 eu, .int .i64 ed] 23)).heap.size (w5.alloc (.cells #[.int .i64 eq, .int .i64 ea, .int .i64 ek, .int .i64 en, .string em, .string et, .int .i64 ec, .int .i64 eu, .int .i64 ed] 23)) ((w5.alloc (.cells #[.int .i64 eq, .int .i64 ea, .int .i64 ek, .int .i64 en, .string em, .string et, .int .i64 ec, .int .i64 eu, .int .i64 ed] 23)).drewN nq) := ⟨rfl, rfl, rfl, Nat.le_refl _, fun _ _ => rfl⟩
              obtain ⟨w6, hw6⟩ : ∃ w6, w6 = ((w5.alloc (.cells #[.int .i64 eq, .int .i64 ea, .int .i64 ek, .int .i64 en, .string em, .string et, .int .i64 ec, .int .i64 eu, .int .i64 ed] 23)).drewN nq) := ⟨_, rfl⟩
              have NE6 : w6.heap[w5.heap.size]? = some (.cells #[.int .i64 eq, .int .i64 ea, .int .i64 ek, .int .i64 en, .string em, .string et, .int .i64 ec, .int .i64 eu, .int .i64 ed] 23) := by rw [hw6]; exact NE
              have BQ6 : Below (w5.alloc (.cells #[.int .i64 eq, .int .i64 ea, .int .i64 ek, .int .i64 en, .string em, .string et, .int .i64 ec, .int .i64 eu, .int .i64 ed] 23)).heap.size (w5.alloc (.cells #[.int .i64 eq, .int .i64 ea, .int .i64 ek, .int .i64 en, .string em, .string et, .int .i64 ec, .int .i64 eu, .int .i64 ed] 23)) w6 := by rw [hw6]; exact BQ
              rw [← hw6]
              clear hw6 BQ NE
              have O8 := HO6.out.kept (N := w.heap.size) (V := w6) (KpC.below BQ6)
              have B8 : Below w.heap.size w w6 := HB6.out.trans (BQ6.mono HB6.out.size)
              have BA8 : Below w6.heap.size w6 (w6.alloc (.cells #[.int .i64 eq, .int .i64 ea, .int .i64 ek, .int .i64 en, .string em, .string et, .int .i64 ec, .int .i64 eu, .int .i64 ed] 23)) := (Below.refl _ _).alloc (Nat.le_refl _) _
              obtain ⟨g', c7, w7, r7, O7, G7, hg7⟩ := ownE_append (O8.kept (KpC.below BA8)) ⟨eq, ea, ek, en, em, et, ec, eu, ed⟩ ⟨w6.heap.size, 0, none⟩ (fun i u hi => by rw [addr_add, Nat.zero_add]; exact ring_cell (tblk_new _ _) hi) HML.out (Nat.le_trans B8.size BA8.size)
              have B7 : Below w.heap.size w w7 := (B8.trans (BA8.mono B8.size)).grown G7 (Nat.le_trans B8.size BA8.size) (fun q hq => (World.ownsRow.lt O8 q hq).1)
              rw [← HM2.out] at r7 O7
              have HO7 := hidV O7
              have HB7 := hidV B7
              have HI7 := hidV (HNX.out HG7.out)
              clear O8 B8 BA8 O7 G7 B7 hg7 BQ6
              have d0 : w6.cell? ⟨w5.heap.size, 0, none⟩ = some (.int .i64 eq) := tblk_cell NE6 rfl
              have d1 : w6.cell? ⟨w5.heap.size, 1, none⟩ = some (.int .i64 ea) := tblk_cell NE6 rfl
              have d2 : w6.cell? ⟨w5.heap.size, 2, none⟩ = some (.int .i64 ek) := tblk_cell NE6 rfl
              have d3 : w6.cell? ⟨w5.heap.size, 3, none⟩ = some (.int .i64 en) := tblk_cell NE6 rfl
              have d4 : w6.cell? ⟨w5.heap.size, 4, none⟩ = some (.string em) := tblk_cell NE6 rfl
              have d5 : w6.cell? ⟨w5.heap.size, 5, none⟩ = some (.string et) := tblk_cell NE6 rfl
              have d6 : w6.cell? ⟨w5.heap.size, 6, none⟩ = some (.int .i64 ec) := tblk_cell NE6 rfl
              have d7 : w6.cell? ⟨w5.heap.size, 7, none⟩ = some (.int .i64 eu) := tblk_cell NE6 rfl
              have d8 : w6.cell? ⟨w5.heap.size, 8, none⟩ = some (.int .i64 ed) := tblk_cell NE6 rfl
              rw [HEV.out] at HO7
              have HM7 : Hid ((p + 1 + 1) = ((pre ++ [x]).map valL).length) := by rw [Hid, ← HEV.out, List.length_append, ← HM2.out]; rfl
              have wi : wrap64 ((i : Int) + 1) = (i : Int) + 1 := by have := wrap64_nat (i + 1) (by omega); simpa using this
              clear NE6 HNX HEV HG7 HML HM2 HO6 HB6 HE
              go_wp2_with (at_builtin; refine wpList_append_run2 rfl _ _ 36 36 rfl _ _ _ w7 rfl rfl r7 ?_; clear r7)
              go_roundw
              case rel => exact ⟨i + 1, i + 1, (p + 1 + 1), pre ++ [x], _, _, by omega, by go_num, by go_num, rfl, HM7, HO7, HI7, HB7⟩
              case measure => simp [intOf]; omega
            · have hd : (lq + 1 != eq) = true := by rw [bne_iff_ne]; exact fun e => hq e.symm
              have HZ : Hid (∀ W, Below w.heap.size w W → AllR w b (.returned (.tuple #[.slice none 0 0, .int .i64 1])) W) := HBAD.out (by rw [HGS.out, hlq, decide_eq_false hq]; rfl) 1 rfl
              clear HBAD HGS hlq hq HNX
              go_wp2_with fail
              go_quiet (fail)
              have BQ : Below w.heap.size w ((w5.alloc (.cells #[.int .i64 eq, .int .i64 ea, .int .i64 ek, .int .i64 en, .string em, .string et, .int .i64 ec, .int .i64 eu, .int .i64 ed] 23)).drewN nq) := ⟨HB6.out.os, HB6.out.tape, HB6.out.output, HB6.out.size, HB6.out.block⟩
              have HBQ := hidV BQ
              clear BQ NE HEV HML HM2 HO6 HB6 HE
              go_wp2
              refine bodyPost_ret (v := .tuple #[.slice none 0 0, .int .i64 1]) (by simp [results, Tryd.results14, go_sem]) rfl ?_
              exact HZ.out _ HBQ.out
      · have hyn : ((y.toNat : Int) != 10) = true := by
          rw [bne_iff_ne]
          intro e
          exact h10 (UInt8.toNat_inj.1 (by show y.toNat = 10; omega))
        have HI2 : Hid (LnI b pre f (i + 1)) := HI.out.step HY.out h10
        clear HI HY h10
        go_wp2
        go_roundw
        case rel => exact ⟨i + 1, f, m, pre, _, _, by omega, by go_num, rfl, rfl, HM, HO, HI2, HB⟩
        case measure => simp [intOf]; omega
    · obtain rfl : i = n := by omega
      have hI := HI.out
      rw [HNN.out] at hI
      by_cases hfl : f < i
      · have hd : decide ((f : Int) < (i : Int)) = true := decide_eq_true (by omega)
        have hd2 : decide (f < i) = true := decide_eq_true hfl
        obtain ⟨e1, e2⟩ := hI.end1 (by rw [← HNN.out]; exact hfl)
        have HZ : Hid (AllR w b (.returned (.tuple #[.slice none 0 0, .int .i64 20])) wr) := ⟨HB.out, .inr ⟨pre, b.drop f, by rw [e1]; exact List.prefix_refl _, hI.g, by rw [good_snoc, e2]; simp, by rw [e2]; rfl⟩⟩
        clear e1 e2 hI HI HM HO HB HSR HK hlt hfl HSZ HBN HNN
        go_wp2
        refine bodyPost_ret (v := .tuple #[.slice none 0 0, .int .i64 20]) (by simp [results, Tryd.results14, go_sem]) rfl ?_
        exact HZ.out
      · have hd : decide ((f : Int) < (i : Int)) = false := decide_eq_false (by omega)
        have hd2 : decide (f < i) = false := decide_eq_false hfl
        have e1 := hI.end0 (by rw [← HNN.out]; exact hfl)
        have HZ : Hid (AllR w b (.returned (.tuple #[.slice a6 m c6, .int .i64 0])) wr) := ⟨HB.out, .inl ⟨by rw [e1]; exact hI.g, _, rfl, by rw [e1]; exact HO.out⟩⟩
        clear e1 hI HI HM HO HB HSR HK hlt hfl HSZ HBN HNN
        go_wp2
        refine bodyPost_ret (v := .tuple #[.slice a6 m c6, .int .i64 0]) (by simp [results, Tryd.results14, go_sem]) rfl ?_
        exact HZ.out
end Go.Proofs.YtedncmbamjkacaaDoor
