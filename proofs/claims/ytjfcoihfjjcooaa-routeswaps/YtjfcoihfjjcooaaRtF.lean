/- RouteWhole: a path leads to itself, and to what lies below it, and nowhere else. -/
import Derived.Test.YtjfcoihfjjcooaaRtE
import Derived.Test.YtjfcoihfjjcooaaAllB
namespace Go.Proofs.Ytjfcoihfjjcooaa
open Go.RowKit
set_option linter.unusedVariables false

theorem fit_app (p q : List UInt8) (h : ∀ b ∈ p, b ≠ 63) : fitL p (p ++ q) = (decide (pathL q = []) || ((p.getLast? == some 47) || ((pathL q).head? == some 47))) := by
  unfold fitL
  rw [pathL_app p q h]
  have e1 : p.isPrefixOf (p ++ pathL q) = true := List.isPrefixOf_iff_prefix.2 (List.prefix_append _ _)
  rw [e1, Bool.true_and, List.drop_left, List.length_append]
  congr 1
  rw [Bool.eq_iff_iff, decide_eq_true_iff, decide_eq_true_iff, ← List.length_eq_zero_iff]
  omega
theorem fit_self (p : List UInt8) (h : ∀ b ∈ p, b ≠ 63) : fitL p p = true := by
  have k := fit_app p [] h
  rw [List.append_nil] at k
  rw [k]; rfl
theorem fit_q (p q : List UInt8) (h : ∀ b ∈ p, b ≠ 63) : fitL p (p ++ 63 :: q) = true := by
  rw [fit_app p _ h]; rfl
theorem fit_s (p q : List UInt8) (h : ∀ b ∈ p, b ≠ 63) : fitL p (p ++ 47 :: q) = true := by
  rw [fit_app p _ h, pathL_c (by decide)]; simp
theorem fit_less (p q : List UInt8) (h : q.length < p.length) : fitL p q = false := by
  cases e : fitL p q
  · rfl
  · have := fitL_len e; omega
theorem fit_c (p q : List UInt8) (c : UInt8) (h : ∀ b ∈ p, b ≠ 63) (h1 : c ≠ 47) (h2 : c ≠ 63) : fitL p (p ++ c :: q) = (p.getLast? == some 47) := by
  rw [fit_app p _ h, pathL_c h2]
  simp [h1]
theorem rew_self (p : List UInt8) (h : ∀ b ∈ p, b ≠ 63) : rewL p [47, 110] p = ([47, 110], true) := by
  unfold rewL
  rw [List.drop_length]
  rw [if_pos ⟨fit_self p h, by decide⟩]
  rfl
theorem fitT_app (p x q : ByteArray) (y : List UInt8) (hx : x.data.toList = y) : fitT p (p ++ x ++ q) = fitL p.data.toList (p.data.toList ++ (y ++ q.data.toList)) := by
  unfold fitT
  rw [app_data, app_data, hx, List.append_assoc]
theorem no_q {s : ByteArray} (h : ∀ (j : Nat) (hj : j < s.size), (s[j].toNat : Int) ≠ 63) : ∀ b ∈ s.data.toList, b ≠ 63 := by
  intro b hb e
  obtain ⟨j, hj, rfl⟩ := List.mem_iff_getElem.1 hb
  have k := h j hj
  apply k
  have : s[j] = s.data.toList[j] := rfl
  rw [this, e]; rfl
theorem last_eq (s : ByteArray) (h : 0 < s.size) : s.data.toList.getLast? = some (s[s.size - 1]'(by omega)) := by
  have hl : 0 < s.data.toList.length := h
  rw [List.getLast?_eq_getElem?, List.getElem?_eq_getElem (by omega)]
  rfl
theorem u8_eq (b : UInt8) (n : Nat) (h : n < 256) : (some b == some (UInt8.ofNat n)) = ((b.toNat : Int) == (n : Int)) := by
  rw [Bool.eq_iff_iff]
  simp
  constructor
  · intro e
    rw [e]
    simp
    omega
  · intro e
    apply UInt8.toNat_inj.1
    simp
    omega
/-- The reference's Target. -/
def tgC (c : Int) : Bool := decide (33 ≤ c) && decide (c ≤ 126)
def tgB (s : ByteArray) : Bool := allB tgC s.data.toList && decide (0 < s.size)
theorem tgB_pos {s : ByteArray} (h : tgB s = true) : 0 < s.size := by
  unfold tgB at h
  rw [Bool.and_eq_true] at h
  exact of_decide_eq_true h.2
theorem tgC_yes {c : Int} (h1 : ¬ c ≤ 32) (h2 : ¬ 127 ≤ c) : tgC c = true := by unfold tgC; simp; omega
theorem tgC_lo {c : Int} (h1 : c ≤ 32) : tgC c = false := by unfold tgC; simp; omega
theorem tgC_hi {c : Int} (h1 : 127 ≤ c) : tgC c = false := by unfold tgC; simp; omega
set_option maxHeartbeats 1000000 in
theorem rtgt_any (s : ByteArray) (w : World) (hs : s.size ≤ maxLen) :
    Calls Try.prog 15 #[.string s] w fun e w' => e = .returned (.bool (tgB s)) ∧ w' = w := by
  unfold maxLen at hs
  unfold tgB
  go_enter Try.func15, Try.ntmps15
  go_wp2
  go_loop [3] (fun i => ∃ k : Nat, k ≤ s.size ∧ i = .int .i64 k ∧ Hid (allB tgC (s.data.toList.take k) = true)) (fun i => s.size - (intOf i).toNat)
  case atStart => exact ⟨0, Nat.zero_le _, rfl, rfl⟩
  case round =>
    obtain ⟨k, hk, rfl, hA⟩ := hrel
    by_cases hlt : k < s.size
    · by_cases a : (s[k].toNat : Int) ≤ 32
      · have HC := allB_false (p := tgC) s k hlt (tgC_lo a)
        go_wp2
        go_ret
        exact ⟨ret_b (by simp), rfl⟩
      · have a' : decide ((s[k].toNat : Int) ≤ 32) = false := by simp; omega
        by_cases b : 127 ≤ (s[k].toNat : Int)
        · have HC := allB_false (p := tgC) s k hlt (tgC_hi b)
          clear a
          go_wp2
          go_ret
          exact ⟨ret_b (by simp), rfl⟩
        · have b' : decide (127 ≤ (s[k].toNat : Int)) = false := by simp; omega
          have HC : Hid (allB tgC (s.data.toList.take (k + 1)) = true) := allB_snoc s k hlt hA.out (tgC_yes a b)
          clear a b
          go_wp2
          go_round
          case rel => exact ⟨k + 1, by omega, by go_num, HC⟩
          case measure => simp [intOf]; omega
    · have hk' : k = s.size := by omega
      subst hk'
      have h := hA.out
      rw [List.take_of_length_le (show s.data.toList.length ≤ s.size from Nat.le_refl _)] at h
      rcases Nat.eq_zero_or_pos s.size with h0 | h0
      · have h0' : decide ((0 : Int) < (s.size : Int)) = false := decide_eq_false (by omega)
        go_wp2
        go_ret
        exact ⟨ret_b (by first | (simp; done) | (simp; omega)), rfl⟩
      · have h0' : decide ((0 : Int) < (s.size : Int)) = true := decide_eq_true (by omega)
        go_wp2
        go_ret
        exact ⟨ret_b (by first | (simp; done) | (simp; omega)), rfl⟩
end Go.Proofs.Ytjfcoihfjjcooaa
