/- LineCuts, walked. -/
import Derived.Test.YtbmpfjmnedlahaaLinC
namespace Go.Proofs.Ytbmpfjmnedlahaa
open Go.RowKit
set_option linter.unusedVariables false

theorem Src.keep {w w' : World} {k : Nat} {v : Value} {b : List UInt8} (h : Src w k v b) (hk : 0 < b.length → k < w.heap.size) (hB : Below w.heap.size w w') : Src w' k v b := by
  rcases Nat.eq_zero_or_pos b.length with c | c
  · obtain ⟨x, y, e, q1, q2, q3⟩ := h
    exact ⟨x, y, e, q1, q2, fun q => by omega⟩
  · exact h.frame (hB.block k (hk c))

set_option maxHeartbeats 1000000 in
theorem cuts_walk (kb len cap : Nat) (a : Option Addr) (b : List UInt8) (most : Int) (w : World) (hb : Src w kb (.slice a len cap) b) (hkb : 0 < b.length → kb < w.heap.size) :
    Calls Try.prog 3 #[.slice a len cap, .int .i64 most] w fun e w' => e = .returned (.bool true) ∧ Below w.heap.size w w' := by
  go_enter Try.func3, Try.ntmps3
  go_wp2_with fail
  refine (cutting_any _).mono ?_
  rintro e w1 ⟨rfl, B1⟩
  have S1 := hb.keep hkb B1
  have H1 : Hid (Calls Try.prog 6 #[.slice a len cap, .int .i64 most] w1 fun e w' => e = .returned (cutV most.toNat b) ∧ w' = w1) := cut_any b kb _ most w1 S1
  have H2 : Hid (Calls Try.prog 7 #[.slice a len cap, .int .i64 most] w1 fun e w' => e = .returned (cutV most.toNat b) ∧ w' = w1) := rcut_any b kb _ most w1 S1
  clear S1 hb hkb
  unfold cutV at H1 H2
  generalize (⟨(cutS most.toNat b).toArray⟩ : ByteArray) = s at *
  generalize (cutN most.toNat b : Int) = n at *
  generalize cutE most.toNat b = e at *
  go_wp2_with fail
  refine H1.out.mono ?_
  rintro e w2 ⟨rfl, rfl⟩
  go_wp2_with fail
  refine H2.out.mono ?_
  rintro e w3 ⟨rfl, rfl⟩
  go_wp2
  go_ret
  exact ⟨rfl, B1⟩
end Go.Proofs.Ytbmpfjmnedlahaa
