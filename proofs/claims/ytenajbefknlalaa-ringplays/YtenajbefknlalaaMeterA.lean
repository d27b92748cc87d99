/- The parts of package meter that only reckon: what sync/atomic's calls do to one cell. -/
import Derived.Test.YtenajbefknlalaaRows
import Derived.WalkKit
import Derived.WalkSpells
import Derived.WalkLawsBesides
import Derived.Laws.Pointers
import Derived.Laws.LoneSync
namespace Go.Proofs.Ytenajbefknlalaa
open Go.RowKit

set_option maxHeartbeats 400000 in
theorem load_any (b off : Nat) (x : Int) (w : World) (hc : w.cell? ⟨b, off, none⟩ = some (.int .i64 x)) :
    Calls Try.prog 28 #[.pointer (some ⟨b, off, none⟩)] w fun e w' => e = .returned (.int .i64 x) ∧ w' = w := by
  have hl := run_call_load (P := Try.prog) Try.func32 (by kernel_rfl) (by kernel_rfl) (by kernel_rfl) .i64 (by kernel_rfl) hc
  go_enter Try.func28, Try.ntmps28
  go_wp2
  go_ret
  exact ⟨rfl, rfl⟩

set_option maxHeartbeats 400000 in
theorem cas_hit (b off : Nat) (x y : Int) (w : World) (hc : w.cell? ⟨b, off, none⟩ = some (.int .i64 x)) (hz : w.frozen? ⟨b, off, none⟩ = false) :
    Calls Try.prog 29 #[.pointer (some ⟨b, off, none⟩), .int .i64 x, .int .i64 y] w fun e w' => e = .returned (.bool true) ∧ w' = w.setCell ⟨b, off, none⟩ (.int .i64 y) := by
  have hl := run_call_cas_hit (P := Try.prog) Try.func33 (by kernel_rfl) (by kernel_rfl) (by kernel_rfl) .i64 (by kernel_rfl) (y := y) hc hz
  go_enter Try.func29, Try.ntmps29
  go_wp2
  go_ret
  exact ⟨rfl, rfl⟩

/-- What a meter may hold, of what was asked for. -/
def mst (a : Int) : Int := min (max a 0) 1099511627776
theorem mst_bd (a : Int) : 0 ≤ mst a ∧ mst a ≤ 1099511627776 := by unfold mst; omega
theorem mst_lo {a : Int} (h : a < 0) : mst a = 0 := by unfold mst; omega
theorem mst_hi {a : Int} (h : 1099511627776 < a) : mst a = 1099511627776 := by unfold mst; omega
theorem mst_in {a : Int} (h : 0 ≤ a) (h' : a ≤ 1099511627776) : mst a = a := by unfold mst; omega

set_option maxHeartbeats 400000 in
theorem new_any (a : Int) (w : World) :
    Calls Try.prog 4 #[.int .i64 a] w fun e w' => e = .returned (.pointer (some ⟨w.heap.size, 0, none⟩)) ∧ w' = w.alloc (.cells #[.int .i64 (mst a), .int .i64 0, .int .i64 0] 53) := by
  rcases Int.lt_or_le a 0 with h | h
  · have e := mst_lo h
    rw [e]; clear e
    go_enter Try.func4, Try.ntmps4
    go_wp2
    go_ret
    exact ⟨rfl, rfl⟩
  · rcases Int.lt_or_le 1099511627776 a with h' | h'
    · have e := mst_hi h'
      rw [e]; clear e
      go_enter Try.func4, Try.ntmps4
      go_wp2
      go_ret
      exact ⟨rfl, rfl⟩
    · have e := mst_in h h'
      rw [e]; clear e
      go_enter Try.func4, Try.ntmps4
      go_wp2
      go_ret
      exact ⟨rfl, rfl⟩

end Go.Proofs.Ytenajbefknlalaa
