/- SameBytes of lists that differ. -/
import Derived.Test.YtdibldocfhpnkaaDoorSamB
namespace Go.Proofs.YtdibldocfhpnkaaDoor
open Go.RowKit
set_option linter.unusedVariables false

theorem eq_of_take {xs ys : List UInt8} (hl : xs.length = ys.length) (h : xs.take xs.length = ys.take xs.length) : xs = ys := by
  rw [List.take_of_length_le (Nat.le_refl _), List.take_of_length_le (by omega)] at h; exact h
set_option maxRecDepth 100000 in
set_option maxHeartbeats 1000000 in
theorem sameBytes_ne (xs ys : List UInt8) (k1 k2 : Nat) (a1 a2 : Option Addr) (c1 c2 : Nat) (w : World) (h1 : Src w k1 (.slice a1 xs.length c1) xs) (h2 : Src w k2 (.slice a2 ys.length c2) ys) (hne : xs ≠ ys) :
    Calls Tryd.prog 12 #[.slice a1 xs.length c1, .slice a2 ys.length c2] w fun e w' => e = .returned (.bool false) ∧ Below w.heap.size w w' := by
  obtain ⟨b1, d1, e1, l1, m1, f1⟩ := h1
  obtain ⟨b2, d2, e2, l2, m2, f2⟩ := h2
  obtain ⟨rfl, _, rfl⟩ := slice_inj e1
  obtain ⟨rfl, _, rfl⟩ := slice_inj e2
  unfold maxLen at m1 m2
  clear e1 e2
  by_cases hl : xs.length = ys.length
  · have hp : 0 < xs.length := by
      rcases Nat.eq_zero_or_pos xs.length with h0 | h0
      · have hx0 : xs = [] := List.eq_nil_of_length_eq_zero h0
        have hy0 : ys = [] := List.eq_nil_of_length_eq_zero (by omega)
        exact absurd (hx0.trans hy0.symm) hne
      · exact h0
    obtain ⟨o1, rfl, g1⟩ := f1 hp
    obtain ⟨o2, rfl, g2⟩ := f2 (by omega)
    have HL : Hid (xs.length = ys.length) := hl
    obtain ⟨n, hN⟩ : ∃ n, n = xs.length := ⟨_, rfl⟩
    have hN2 : n = ys.length := by omega
    have HN : Hid (n = xs.length) := hN
    have HN2 : Hid (n = ys.length) := hN2
    have HNE : Hid (xs ≠ ys) := hne
    have hn : n ≤ 9223372036854775807 := by omega
    rw [← hN, ← hN2]
    clear f1 f2 l1 l2 m1 m2 hl hN hN2 hp hne
    go_enter Tryd.func12, Tryd.ntmps12
    go_wp2_with fail
    go_loopw [5] (fun vi wr => ∃ k d : Nat, k ≤ n ∧ vi = .int .i64 k ∧ wr = w.drewN d ∧ Hid (xs.take k = ys.take k)) (fun vi _ => n - (intOf vi).toNat)
    case atStart => exact ⟨0, 0, Nat.zero_le _, rfl, by simp [World.drewN_zero], rfl⟩
    case round =>
      obtain ⟨k, d, hk, rfl, rfl, hT⟩ := hrel
      have hlt : k < n := by
        rcases Nat.lt_or_ge k n with c | c
        · exact c
        · have : k = xs.length := by have := HN.out; omega
          subst this
          exact absurd (eq_of_take HL.out hT.out) HNE.out
      have hx : k < xs.length := by have := HN.out; omega
      have hy : k < ys.length := by have := HN2.out; omega
      have q1 : w.cell? ⟨k1, o1 + k, none⟩ = some (.int .u8 (xs[k].toNat : Int)) := g1 k hx
      have q2 : w.cell? ⟨k2, o2 + k, none⟩ = some (.int .u8 (ys[k].toNat : Int)) := g2 k hy
      have HT2 : Hid (xs[k] = ys[k] → xs.take (k + 1) = ys.take (k + 1)) := fun e => by rw [List.take_succ_eq_append_getElem hx, List.take_succ_eq_append_getElem hy, hT.out, e]
      have hcase : xs[k] = ys[k] ∨ ((xs[k].toNat : Int) == (ys[k].toNat : Int)) = false := by
        by_cases e : xs[k] = ys[k]
        · exact .inl e
        · right
          rw [beq_eq_false_iff_ne]
          intro c
          exact e (UInt8.toNat_inj.1 (by omega))
      clear g1 g2
      rcases hcase with he | he
      · have HT3 : Hid (xs.take (k + 1) = ys.take (k + 1)) := HT2.out he
        have e0 : (ys[k].toNat : Int) = (xs[k].toNat : Int) := by rw [he]
        rw [e0] at q2
        generalize (xs[k].toNat : Int) = x at *
        clear he HT2 e0 hx hy
        go_wp2
        go_quiet (fail)
        go_wp2
        go_roundw
        case rel => exact ⟨k + 1, _, by omega, by go_num, rfl, HT3.out⟩
        case measure => simp [intOf]; omega
      · generalize (xs[k].toNat : Int) = x at *
        generalize (ys[k].toNat : Int) = y at *
        clear HT2 hx hy
        go_wp2
        go_quiet (fail)
        go_wp2
        go_ret
        exact ⟨rfl, by refine ⟨?_, ?_, ?_, ?_, ?_⟩ <;> simp [World.drewN]⟩
  · have hl2 : ((xs.length : Int) == (ys.length : Int)) = false := by rw [beq_eq_false_iff_ne]; omega
    have hl3 : ¬ (xs.length : Int) = (ys.length : Int) := by omega
    clear f1 f2 hne hl
    generalize xs.length = n at *
    generalize ys.length = m at *
    go_enter Tryd.func12, Tryd.ntmps12
    go_wp2
    go_ret
    exact ⟨rfl, Below.refl _ _⟩
end Go.Proofs.YtdibldocfhpnkaaDoor
