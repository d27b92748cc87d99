/- Whatever the number and the bool, MeterLatch answers true: a latch is closed by the first call, whose function alone is called, once; no condition. -/
import Derived.Test.YtmmileafiainnaaRows
import Derived.WalkKit
import Derived.ProofKit
import Derived.OpenShut
import Derived.Test.YtmmileafiainnaaLatchB
namespace Go.Proofs.Ytmmileafiainnaa.meterLatch
open Go.ChangeShapes Go.WideShapes Go.ChangeAt Go.RowKit
set_option linter.unusedVariables false

theorem own : ownKnob Try.prog.godebug = none := by kernel_rfl

set_option maxRecDepth 100000 in
set_option maxHeartbeats 4000000 in
theorem walk_t (n : Int) (w : World) :
    Calls Try.prog 6 #[.int .i64 n, .bool true] w fun e w' => e = .returned (.bool true) ∧ Below w.heap.size w w' := by
  have hmf : ∀ (fn : Fn) (first cap : Array Value) (w : World), (Instr.makeFunc fn first cap).run Try.prog w = .ok (.func fn first cap) w := fun _ _ _ _ => rfl
  obtain ⟨N, hN, hb⟩ := and_mask n 31 (by decide)
  have hb' : bits BinOp.and IntKind.i64 n 31 = (N : Int) := hb
  clear hb
  go_enter Try.func6, Try.ntmps6
  go_wp2_with fail
  have hl1 : IsL (w.alloc (.cells (LC 0 0 0) 53)) w.heap.size 0 0 0 := blk_new _ _
  have hB1 := (Below.refl w.heap.size w).alloc (Nat.le_refl _) (.cells (LC 0 0 0) 53)
  refine (alive_any (w.alloc (.cells (LC 0 0 0) 53))).mono ?_
  generalize w.alloc (.cells (LC 0 0 0) 53) = w1 at *
  rintro e w2 ⟨rfl, hA⟩
  have hl2 : IsL w2 w.heap.size 0 0 0 := (hA.block _ (blk_lt hl1)).trans hl1
  have hB2 := hB1.trans (hA.mono hB1.size)
  clear hl1 hB1 hA
  go_wp2_with fail
  refine (closedL _ 0 0 0 _ hl2).mono ?_
  rintro e w3 ⟨rfl, rfl⟩
  have hlt2 := blk_lt hl2
  have hlb : w.heap.size ≤ w3.heap.size := hB2.size
  have hne : w3.heap.size ≠ w.heap.size := by omega
  go_wp2_with fail
  have hl4 : IsL (w3.alloc (.cells #[.int .i64 0] 3)) w.heap.size 0 0 0 := blk_alloc hl2 _
  have hc4 := blk_new w3 (.cells #[.int .i64 0] 3)
  have hB4 := hB2.alloc hlb (.cells #[.int .i64 0] 3)
  go_loopw [7, 8] (fun vf vi wr => ∃ (k : Nat) (f c : Int), k ≤ N ∧ vi = .int .i64 k ∧ vf = .int .i64 f ∧ IsL wr w.heap.size f 0 f ∧ wr.heap[w3.heap.size]? = some (.cells #[.int .i64 c] 3) ∧ Below w.heap.size w wr ∧ ((k = 0 ∧ f = 0 ∧ c = 0) ∨ (0 < k ∧ f = 1 ∧ c = 0))) (fun _ vi _ => N - (intOf vi).toNat)
  case atStart => exact ⟨0, 0, 0, Nat.zero_le _, rfl, rfl, hl4, hc4, hB4, .inl ⟨rfl, rfl, rfl⟩⟩
  case round =>
    obtain ⟨k, f, c, hk, rfl, rfl, hl, hc, hB, hcase⟩ := hrel
    clear hl4 hc4 hB4
    by_cases hlt : k < N
    · rcases hcase with ⟨rfl, rfl, rfl⟩ | ⟨hpos, rfl, rfl⟩
      · go_wp2_with fail
        refine (close_nil w.heap.size _ hl).mono ?_
        rintro e w5 ⟨rfl, hl5, ho⟩
        have hc5 := (ho.block _ (blk_lt hc) hne).trans hc
        have hB5 := hB.trans (ho.below (fun k h => by omega) hB.size)
        clear ho hl hc hB
        go_wp2_with fail
        refine (closedL _ 1 0 1 _ hl5).mono ?_
        rintro e w6 ⟨rfl, rfl⟩
        go_wp2
        go_roundw
        case rel => exact ⟨1, 1, 0, by omega, by go_num, by go_num, hl5, hc5, hB5, .inr ⟨by omega, rfl, rfl⟩⟩
        case measure => simp [intOf]; omega
      · have hk0 : ((k : Int) == 0) = false := by simp; omega
        go_wp2_with fail
        refine (close_closed w.heap.size _ _ hl (.inr ⟨_, _, _, rfl⟩) (fun _ => False)).mono ?_
        rintro e w5 ⟨rfl, hkeep, ho⟩
        have hl5 : IsL w5 w.heap.size 1 0 1 := hkeep _ _ hl
        have hc5 := hkeep _ _ hc
        have hB5 := hB.trans (ho.below (fun _ h => h.elim) hB.size)
        clear hkeep ho hl hc hB
        go_wp2_with fail
        refine (closedL _ 1 0 1 _ hl5).mono ?_
        rintro e w6 ⟨rfl, rfl⟩
        go_wp2
        go_roundw
        case rel => exact ⟨k + 1, 1, 0, by omega, by go_num, rfl, hl5, hc5, hB5, .inr ⟨by omega, rfl, rfl⟩⟩
        case measure => simp [intOf]; omega
    · have hkN : k = N := by omega
      subst hkN
      clear hlt
      have hlr := blk_lt hc
      have hbx : w.heap.size ≤ wr.heap.size := hB.size
      have hl6 : IsL ((wr.alloc (.cells (LC 0 0 0) 53)).alloc (.cells #[.bool false] 4)) wr.heap.size 0 0 0 := blk_alloc (blk_new _ _) _
      have hc6 : ((wr.alloc (.cells (LC 0 0 0) 53)).alloc (.cells #[.bool false] 4)).heap[wr.heap.size + 1]? = some (.cells #[.bool false] 4) := by
        have h := blk_new (wr.alloc (.cells (LC 0 0 0) 53)) (.cells #[.bool false] 4)
        rw [show (wr.alloc (.cells (LC 0 0 0) 53)).heap.size = wr.heap.size + 1 from by simp] at h
        exact h
      have hcn6 := blk_alloc (blk_alloc hc (.cells (LC 0 0 0) 53)) (.cells #[.bool false] 4)
      have hB6 := (hB.alloc hbx (.cells (LC 0 0 0) 53)).alloc (by simp; omega) (.cells #[.bool false] 4)
      have hclose := close_look wr.heap.size (wr.heap.size + 1) false _ hl6 hc6 (by omega)
      have HC := hclose
      clear hclose
      have HC : Hid (Calls Try.prog 21 _ _ _) := HC
      clear hl6 hc6 hl hc hB
      go_wp2_with fail
      refine HC.out.mono ?_
      clear HC
      generalize (wr.alloc (.cells (LC 0 0 0) 53)).alloc (.cells #[.bool false] 4) = w6 at *
      rintro e w7 ⟨rfl, hl7, hc7, ho7⟩
      have hcn7 := (ho7.block w3.heap.size (blk_lt hcn6) (by omega)).trans hcn6
      have hB7 := hB6.trans (ho7.below (B := w.heap.size) (fun k h => by rcases h with h | h <;> omega) hB6.size)
      have y7 := blk_cell (i := 0) hc7 rfl
      have y8 := blk_cell (i := 0) hcn7 rfl
      clear ho7 hcn6 hB6
      go_wp2_with fail
      refine (closedL _ 1 0 1 _ hl7).mono ?_
      rintro e w8 ⟨rfl, rfl⟩
      rcases hcase with ⟨rfl, rfl, rfl⟩ | ⟨hpos, rfl, rfl⟩
      · go_wp2
        go_ret
        exact ⟨rfl, hB7⟩
      · by_cases hk1 : (1 : Int) < (k : Int)
        · go_wp2
          go_ret
          exact ⟨rfl, hB7⟩
        · have hk2 : k = 1 := by omega
          subst hk2
          go_wp2
          go_ret
          exact ⟨rfl, hB7⟩

set_option maxRecDepth 100000 in
set_option maxHeartbeats 4000000 in
theorem walk_f (n : Int) (w : World) :
    Calls Try.prog 6 #[.int .i64 n, .bool false] w fun e w' => e = .returned (.bool true) ∧ Below w.heap.size w w' := by
  have hmf : ∀ (fn : Fn) (first cap : Array Value) (w : World), (Instr.makeFunc fn first cap).run Try.prog w = .ok (.func fn first cap) w := fun _ _ _ _ => rfl
  obtain ⟨N, hN, hb⟩ := and_mask n 31 (by decide)
  have hb' : bits BinOp.and IntKind.i64 n 31 = (N : Int) := hb
  clear hb
  go_enter Try.func6, Try.ntmps6
  go_wp2_with fail
  have hl1 : IsL (w.alloc (.cells (LC 0 0 0) 53)) w.heap.size 0 0 0 := blk_new _ _
  have hB1 := (Below.refl w.heap.size w).alloc (Nat.le_refl _) (.cells (LC 0 0 0) 53)
  refine (alive_any (w.alloc (.cells (LC 0 0 0) 53))).mono ?_
  generalize w.alloc (.cells (LC 0 0 0) 53) = w1 at *
  rintro e w2 ⟨rfl, hA⟩
  have hl2 : IsL w2 w.heap.size 0 0 0 := (hA.block _ (blk_lt hl1)).trans hl1
  have hB2 := hB1.trans (hA.mono hB1.size)
  clear hl1 hB1 hA
  go_wp2_with fail
  refine (closedL _ 0 0 0 _ hl2).mono ?_
  rintro e w3 ⟨rfl, rfl⟩
  have hlt2 := blk_lt hl2
  have hlb : w.heap.size ≤ w3.heap.size := hB2.size
  have hne : w3.heap.size ≠ w.heap.size := by omega
  go_wp2_with fail
  have hl4 : IsL (w3.alloc (.cells #[.int .i64 0] 3)) w.heap.size 0 0 0 := blk_alloc hl2 _
  have hc4 := blk_new w3 (.cells #[.int .i64 0] 3)
  have hB4 := hB2.alloc hlb (.cells #[.int .i64 0] 3)
  go_loopw [7, 8] (fun vf vi wr => ∃ (k : Nat) (f c : Int), k ≤ N ∧ vi = .int .i64 k ∧ vf = .int .i64 f ∧ IsL wr w.heap.size f 0 f ∧ wr.heap[w3.heap.size]? = some (.cells #[.int .i64 c] 3) ∧ Below w.heap.size w wr ∧ ((k = 0 ∧ f = 0 ∧ c = 0) ∨ (0 < k ∧ f = 1 ∧ c = 1))) (fun _ vi _ => N - (intOf vi).toNat)
  case atStart => exact ⟨0, 0, 0, Nat.zero_le _, rfl, rfl, hl4, hc4, hB4, .inl ⟨rfl, rfl, rfl⟩⟩
  case round =>
    obtain ⟨k, f, c, hk, rfl, rfl, hl, hc, hB, hcase⟩ := hrel
    clear hl4 hc4 hB4
    by_cases hlt : k < N
    · rcases hcase with ⟨rfl, rfl, rfl⟩ | ⟨hpos, rfl, rfl⟩
      · go_wp2_with fail
        refine (close_count w.heap.size w3.heap.size 0 _ hl hc hne (by omega) (by omega)).mono ?_
        rintro e w5 ⟨rfl, hl5, hc5, ho⟩
        have hB5 := hB.trans (ho.below (fun k h => by rcases h with h | h <;> omega) hB.size)
        clear ho hl hc hB
        go_wp2_with fail
        refine (closedL _ 1 0 1 _ hl5).mono ?_
        rintro e w6 ⟨rfl, rfl⟩
        go_wp2
        go_roundw
        case rel => exact ⟨1, 1, 1, by omega, by go_num, by go_num, hl5, hc5, hB5, .inr ⟨by omega, rfl, rfl⟩⟩
        case measure => simp [intOf]; omega
      · have hk0 : ((k : Int) == 0) = false := by simp; omega
        go_wp2_with fail
        refine (close_closed w.heap.size _ _ hl (.inr ⟨_, _, _, rfl⟩) (fun _ => False)).mono ?_
        rintro e w5 ⟨rfl, hkeep, ho⟩
        have hl5 : IsL w5 w.heap.size 1 0 1 := hkeep _ _ hl
        have hc5 := hkeep _ _ hc
        have hB5 := hB.trans (ho.below (fun _ h => h.elim) hB.size)
        clear hkeep ho hl hc hB
        go_wp2_with fail
        refine (closedL _ 1 0 1 _ hl5).mono ?_
        rintro e w6 ⟨rfl, rfl⟩
        go_wp2
        go_roundw
        case rel => exact ⟨k + 1, 1, 1, by omega, by go_num, rfl, hl5, hc5, hB5, .inr ⟨by omega, rfl, rfl⟩⟩
        case measure => simp [intOf]; omega
    · have hkN : k = N := by omega
      subst hkN
      clear hlt
      have hlr := blk_lt hc
      have hbx : w.heap.size ≤ wr.heap.size := hB.size
      have hl6 : IsL ((wr.alloc (.cells (LC 0 0 0) 53)).alloc (.cells #[.bool false] 4)) wr.heap.size 0 0 0 := blk_alloc (blk_new _ _) _
      have hc6 : ((wr.alloc (.cells (LC 0 0 0) 53)).alloc (.cells #[.bool false] 4)).heap[wr.heap.size + 1]? = some (.cells #[.bool false] 4) := by
        have h := blk_new (wr.alloc (.cells (LC 0 0 0) 53)) (.cells #[.bool false] 4)
        rw [show (wr.alloc (.cells (LC 0 0 0) 53)).heap.size = wr.heap.size + 1 from by simp] at h
        exact h
      have hcn6 := blk_alloc (blk_alloc hc (.cells (LC 0 0 0) 53)) (.cells #[.bool false] 4)
      have hB6 := (hB.alloc hbx (.cells (LC 0 0 0) 53)).alloc (by simp; omega) (.cells #[.bool false] 4)
      have hclose := close_look wr.heap.size (wr.heap.size + 1) false _ hl6 hc6 (by omega)
      have HC := hclose
      clear hclose
      have HC : Hid (Calls Try.prog 21 _ _ _) := HC
      clear hl6 hc6 hl hc hB
      go_wp2_with fail
      refine HC.out.mono ?_
      clear HC
      generalize (wr.alloc (.cells (LC 0 0 0) 53)).alloc (.cells #[.bool false] 4) = w6 at *
      rintro e w7 ⟨rfl, hl7, hc7, ho7⟩
      have hcn7 := (ho7.block w3.heap.size (blk_lt hcn6) (by omega)).trans hcn6
      have hB7 := hB6.trans (ho7.below (B := w.heap.size) (fun k h => by rcases h with h | h <;> omega) hB6.size)
      have y7 := blk_cell (i := 0) hc7 rfl
      have y8 := blk_cell (i := 0) hcn7 rfl
      clear ho7 hcn6 hB6
      go_wp2_with fail
      refine (closedL _ 1 0 1 _ hl7).mono ?_
      rintro e w8 ⟨rfl, rfl⟩
      rcases hcase with ⟨rfl, rfl, rfl⟩ | ⟨hpos, rfl, rfl⟩
      · go_wp2
        go_ret
        exact ⟨rfl, hB7⟩
      · by_cases hk1 : (1 : Int) < (k : Int)
        · go_wp2
          go_ret
          exact ⟨rfl, hB7⟩
        · have hk2 : k = 1 := by omega
          subst hk2
          go_wp2
          go_ret
          exact ⟨rfl, hB7⟩

theorem walk (a0 : Int) (a1 : Bool) (w : World) :
    Calls Try.prog 6 #[.int .i64 a0, .bool a1] w fun e w' => e = .returned (.bool true) ∧ Below w.heap.size w w' := by
  cases a1
  · exact walk_f a0 w
  · exact walk_t a0 w

set_option maxRecDepth 100000 in
theorem lifted (os : Os) (started : os.Started) (H : Type) (enc : TypeId × Value → H) :
    ReturnsInHanded {} Try.checked os 6 .any (Rows.meterLatchSpec.pre6 enc Try.prog Try.f6 Rows.meterLatchRow.domain false) (Rows.meterLatchSpec.post enc Try.prog Try.f6 false true false false) := by
  refine returnsInHanded_of_change (C := Try.checked) own started (by kernel_rfl) Try.func6
    (ChangeSpec.witness6 (enc := enc) (C := Try.checked) false ⟨#[], #[.int .i64 0, .bool false], []⟩ 8 (by kernel_rfl) (by kernel_rfl) (by kernel_rfl) (by kernel_rfl)) ?_
  intro W base args ds gs before hval0 hW hcnd _
  have hval : ∀ (j : Nat) t v, Try.f6.params[j]? = some t → args[j]? = some v → Value.okWide Try.prog W .any base t v := hval0
  have hW' := hW
  obtain ⟨p, q, hA0, hV, rfl, hfz, hnd⟩ := hW
  have hA : DataW.TrodAll enc Try.prog W 0 (fun _ => true) true Try.f6.params.toList args.toList ds p := hA0
  rw [Try.params6] at hA hval
  obtain ⟨v0, vs0, d0, ds0, p0, q0, hargs, rfl, rfl, h0, r0⟩ := trodAll_cons hA
  obtain ⟨v1, vs1, d1, ds1, p1, q1, rfl, rfl, rfl, h1, r1⟩ := trodAll_cons r0
  obtain ⟨rfl, rfl, rfl⟩ := trodAll_nil r1
  obtain rfl : args = #[v0, v1] := by cases args; simp_all
  obtain ⟨rfl, rfl⟩ := trodVars_none hV
  obtain ⟨a0, rfl, rfl, rfl, w0⟩ := open_int Try.underlying3 (hval 0 3 v0 rfl rfl) h0
  obtain ⟨a1, rfl, rfl, rfl⟩ := open_bool Try.underlying4 (hval 1 4 v1 rfl rfl) h1
  clear hA0 hval0
  simp only [List.append_nil] at hW'
  refine (walk a0 a1 W).mono fun e W' ⟨he, bel⟩ => ?_
  subst he
  exact ⟨_, rfl, _, _, _, [], _, [], hW', trodAll_mk1 (shut_bool Try.underlying4 _), (trodAll_cons_mk (shut_int Try.underlying3 w0) (trodAll_cons_mk (shut_bool Try.underlying4 _) trodAll_mk0)), rfl, bel.frame _, fun h => by cases h⟩

theorem over : Rows.meterLatchRow.holds Try.pinned (OpenSpec.ofChange Rows.meterLatchSpec) :=
  OpenClaim.holds_of_wide 6 Try.f6 rfl rfl rfl rfl rfl rfl rfl ⟨rfl, rfl, rfl, rfl, rfl⟩ rfl rfl rfl rfl rfl (by kernel_rfl) Try.func6 (by kernel_rfl)
    (of_decide_eq_true (by kernel_rfl)) (by unfold Func.isWrapper; first | (rw [if_pos (by decide +kernel)]; kernel_rfl) | (rw [if_neg (by decide +kernel)]; exact ⟨rfl, rfl⟩))
    (fun os started H enc _ => lifted os started H enc)

end Go.Proofs.Ytmmileafiainnaa.meterLatch
namespace Go.Proofs.Ytmmileafiainnaa
/-- The statement. -/
theorem meterLatch_holds : Rows.MeterLatchSaid := meterLatch.over
#print axioms meterLatch_holds
end Go.Proofs.Ytmmileafiainnaa
