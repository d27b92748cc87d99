/- The parts of sync.Once's slow road, each a contract of its own. -/
import Derived.Test.YtmmileafiainnaaMeterC
import Derived.Defers
import Derived.RegionTactic
import Derived.RegionCalls
import Derived.ChangeAlike
import Derived.Laws.NewBlocks
import Derived.Laws.EntriesVeiled
namespace Go.Proofs.Ytmmileafiainnaa
open Go.RowKit
set_option linter.unusedVariables false

theorem disable (w : World) : (callFunc 61 #[]).run Try.prog w = .ok (.value (.tuple #[])) w := run_call_mark0 Try.func61 (by kernel_rfl) (by kernel_rfl) (by kernel_rfl) .disable (by kernel_rfl) w
theorem enable (w : World) : (callFunc 63 #[]).run Try.prog w = .ok (.value (.tuple #[])) w := run_call_mark0 Try.func63 (by kernel_rfl) (by kernel_rfl) (by kernel_rfl) .enable (by kernel_rfl) w
theorem acquire (a : Addr) (w : World) : (callFunc 64 #[.pointer (some a)]).run Try.prog w = .ok (.value (.tuple #[])) w := run_call_marked Try.func64 (by kernel_rfl) (by kernel_rfl) (by kernel_rfl) .acquire (by kernel_rfl) a w
theorem releaseMerge (a : Addr) (w : World) : (callFunc 66 #[.pointer (some a)]).run Try.prog w = .ok (.value (.tuple #[])) w := run_call_marked Try.func66 (by kernel_rfl) (by kernel_rfl) (by kernel_rfl) .releaseMerge (by kernel_rfl) a w

/-- A Bool's Store(true), entered as a deferred call. -/
theorem store_deferred (a : Addr) (x : Value) (u : FrameMode) (w : World) (hc : w.cell? a = some x) (hz : w.frozen? a = false) :
    CallsD Try.prog 37 #[.pointer (some a), .bool true] u w fun e u' w' => u' = u ∧ (e = .returned (.tuple #[]) ∧ w' = w.drew.setCell a (.int .u32 1)) := by
  have hc' : w.drew.cell? a = some x := by go_simp
  have hz' : w.drew.frozen? a = false := by go_simp
  have hst := run_call_store (P := Try.prog) Try.func47 (by kernel_rfl) (by kernel_rfl) (by kernel_rfl) (by kernel_rfl) (k := .u32) (y := 1) hc' hz'
  go_enter_d Try.func37, Try.ntmps37
  go_wp2
  go_region_calls
  all_goals (go_end0; exact ⟨rfl, rfl⟩)

/-- Unlock, entered as a deferred call, the lock held and nobody waiting. -/
theorem unlock_deferred (a : Addr) (u : FrameMode) (w : World) (hc : w.cell? a = some (.int .i32 1)) (hz : w.frozen? a = false) :
    CallsD Try.prog 56 #[.pointer (some a)] u w fun e u' w' => u' = u ∧ (e = .returned (.tuple #[]) ∧ w' = w.setCell a (.int .i32 0)) := by
  have hd := disable
  have he := enable
  have hr := releaseMerge
  have hadd := run_call_add (P := Try.prog) Try.func67 (by kernel_rfl) (by kernel_rfl) (by kernel_rfl) .i32 (by kernel_rfl) (y := -1) (s := 0) hc hz (by simp [go_sem]; rfl)
  have hcv := run_convert_to_unsafe (P := Try.prog) (src := 88) (dst := 92) Try.underlying88 Try.underlying92 (by kernel_rfl) hc
  go_enter_d Try.func56, Try.ntmps56
  go_wp2
  go_end0
  go_wp2
  go_end0
  exact ⟨rfl, rfl⟩

/-- Lock, the lock free. -/
theorem lock_free (a : Addr) (w : World) (hc : w.cell? a = some (.int .i32 0)) (hz : w.frozen? a = false) :
    Calls Try.prog 55 #[.pointer (some a)] w fun e w' => e = .returned (.tuple #[]) ∧ w' = w.setCell a (.int .i32 1) := by
  have hd := disable
  have he := enable
  have ha := acquire
  have hcas := run_call_cas_hit (P := Try.prog) Try.func62 (by kernel_rfl) (by kernel_rfl) (by kernel_rfl) .i32 (by kernel_rfl) (y := 1) hc hz
  have hc' : (w.setCell a (.int .i32 1)).cell? a = some (.int .i32 1) := World.cell?_setCell_same w a _ hc
  have hcv := run_convert_to_unsafe (P := Try.prog) (src := 88) (dst := 92) Try.underlying88 Try.underlying92 (by kernel_rfl) hc'
  go_enter Try.func55, Try.ntmps55
  go_wp2
  first | go_end0 | (simp only [Exit.inBlock, Exit.then]; refine bodyPost_ret (results_none rfl _ _ _) rfl ?_) | refine bodyPost_ret (results_none rfl _ _ _) rfl ?_
  go_wp2
  go_end0
  exact ⟨rfl, rfl⟩

/-- A Bool's Load. -/
theorem loadB_any (b off : Nat) (x : Int) (w : World) (hc : w.cell? ⟨b, off, none⟩ = some (.int .u32 x)) :
    Calls Try.prog 34 #[.pointer (some ⟨b, off, none⟩)] w fun e w' => e = .returned (.bool (x != 0)) ∧ w' = w := by
  have hl := run_call_load (P := Try.prog) Try.func45 (by kernel_rfl) (by kernel_rfl) (by kernel_rfl) .u32 (by kernel_rfl) hc
  go_enter Try.func34, Try.ntmps34
  go_wp2
  go_ret
  exact ⟨rfl, rfl⟩
/-- Closed. -/
theorem closed_any (b : Nat) (x : Int) (w : World) (hc : w.cell? ⟨b, 3, none⟩ = some (.int .u32 x)) :
    Calls Try.prog 19 #[.pointer (some ⟨b, 0, none⟩)] w fun e w' => e = .returned (.bool (x != 0)) ∧ w' = w := by
  go_enter Try.func19, Try.ntmps19
  go_wp2_with (go_at_call 34; refine (loadB_any b 3 x _ hc).mono ?_; rintro e w' ⟨rfl, rfl⟩)
  go_ret
  exact ⟨rfl, rfl⟩

theorem neq_nil (w : World) : (binOp BinOp.neq 1 .nilFunc .nilFunc).run Try.prog w = .ok (.bool false) w := by kernel_rfl
theorem neq_func (fn : Fn) (a c : Array Value) (w : World) : (binOp BinOp.neq 1 (.func fn a c) .nilFunc).run Try.prog w = .ok (.bool true) w := by kernel_rfl

set_option maxHeartbeats 1000000 in
/-- The function that Close hands to the once: where f is nil. -/
theorem body_nil (b : Nat) (pl pf pn : Nat) (x y : Value) (w : World) (hl : w.cell? ⟨pl, 0, none⟩ = some (.pointer (some ⟨b, 0, none⟩))) (hf : w.cell? ⟨pf, 0, none⟩ = some x) (zf : w.frozen? ⟨pf, 0, none⟩ = false)
    (hn : w.cell? ⟨pn, 0, none⟩ = some .nilFunc) (hc : w.cell? ⟨b, 3, none⟩ = some y) (zc : w.frozen? ⟨b, 3, none⟩ = false) (hne : pf ≠ pn) (hne2 : pf ≠ b) :
    Calls Try.prog 36 #[.pointer (some ⟨pl, 0, none⟩), .pointer (some ⟨pf, 0, none⟩), .pointer (some ⟨pn, 0, none⟩)] w fun e w' => e = .returned (.tuple #[]) ∧ w' = (w.setCell ⟨pf, 0, none⟩ (.bool true)).drew.setCell ⟨b, 3, none⟩ (.int .u32 1) := by
  have hq := neq_nil
  go_enter_defers Try.func36, Try.ntmps36
  go_wp2
  refine leaves_cons (f := 37) (args := #[.pointer (some ⟨b, 3, none⟩), .bool true]) (by simp) (by simp [go_sem]) ?_
  refine (store_deferred ⟨b, 3, none⟩ y .returning _ ?_ ?_).mono ?_
  · exact (World.cell?_setCell_other _ ⟨pf, 0, none⟩ ⟨b, 3, none⟩ _ (by simp)).trans hc
  · simp [zc]
  rintro e u' w'' ⟨rfl, rfl, rfl⟩
  simp [Leaves, settle, results, Try.results36]

set_option maxHeartbeats 1000000 in
/-- The function that Close hands to the once: where f is the counter's. -/
theorem body_count (b : Nat) (pl pf pn cn : Nat) (n : Int) (x y : Value) (w : World) (hl : w.cell? ⟨pl, 0, none⟩ = some (.pointer (some ⟨b, 0, none⟩))) (hf : w.cell? ⟨pf, 0, none⟩ = some x) (zf : w.frozen? ⟨pf, 0, none⟩ = false)
    (hn : w.cell? ⟨pn, 0, none⟩ = some (.func (.func 20) #[] #[.pointer (some ⟨cn, 0, none⟩)])) (hcn : w.cell? ⟨cn, 0, none⟩ = some (.int .i64 n)) (zn : w.frozen? ⟨cn, 0, none⟩ = false) (bn0 : 0 ≤ n) (bn1 : n ≤ 1000)
    (hc : w.cell? ⟨b, 3, none⟩ = some y) (zc : w.frozen? ⟨b, 3, none⟩ = false) (hne : pf ≠ pn) (hne2 : pf ≠ b) (hne3 : pf ≠ cn) (hne4 : cn ≠ b) :
    Calls Try.prog 36 #[.pointer (some ⟨pl, 0, none⟩), .pointer (some ⟨pf, 0, none⟩), .pointer (some ⟨pn, 0, none⟩)] w fun e w' => e = .returned (.tuple #[]) ∧ w' = ((w.setCell ⟨pf, 0, none⟩ (.bool true)).setCell ⟨cn, 0, none⟩ (.int .i64 (n + 1))).drew.setCell ⟨b, 3, none⟩ (.int .u32 1) := by
  have hq := neq_func
  go_enter_defers Try.func36, Try.ntmps36
  go_wp2
  go_end0
  go_wp2
  refine leaves_cons (f := 37) (args := #[.pointer (some ⟨b, 3, none⟩), .bool true]) (by simp) (by simp [go_sem]) ?_
  refine (store_deferred ⟨b, 3, none⟩ y .returning _ ?_ ?_).mono ?_
  · exact (World.cell?_setCell_other _ ⟨cn, 0, none⟩ ⟨b, 3, none⟩ _ (by simp)).trans ((World.cell?_setCell_other _ ⟨pf, 0, none⟩ ⟨b, 3, none⟩ _ (by simp)).trans hc)
  · simp [zc]
  rintro e u' w'' ⟨rfl, rfl, rfl⟩
  simp [Leaves, settle, results, Try.results36]

set_option maxHeartbeats 1000000 in
/-- The function that Close hands to the once: where f asks the latch itself. -/
theorem body_look (b : Nat) (pl pf pn cn : Nat) (x v : Value) (w : World) (hl : w.cell? ⟨pl, 0, none⟩ = some (.pointer (some ⟨b, 0, none⟩))) (hf : w.cell? ⟨pf, 0, none⟩ = some x) (zf : w.frozen? ⟨pf, 0, none⟩ = false)
    (hn : w.cell? ⟨pn, 0, none⟩ = some (.func (.func 22) #[] #[.pointer (some ⟨b, 0, none⟩), .pointer (some ⟨cn, 0, none⟩)])) (hcn : w.cell? ⟨cn, 0, none⟩ = some v) (zn : w.frozen? ⟨cn, 0, none⟩ = false)
    (hc : w.cell? ⟨b, 3, none⟩ = some (.int .u32 0)) (zc : w.frozen? ⟨b, 3, none⟩ = false) (hne : pf ≠ pn) (hne2 : pf ≠ b) (hne3 : pf ≠ cn) (hne4 : cn ≠ b) :
    Calls Try.prog 36 #[.pointer (some ⟨pl, 0, none⟩), .pointer (some ⟨pf, 0, none⟩), .pointer (some ⟨pn, 0, none⟩)] w fun e w' => e = .returned (.tuple #[]) ∧ w' = ((w.setCell ⟨pf, 0, none⟩ (.bool true)).setCell ⟨cn, 0, none⟩ (.bool false)).drew.setCell ⟨b, 3, none⟩ (.int .u32 1) := by
  have hq := neq_func
  have hc1 : (w.setCell ⟨pf, 0, none⟩ (.bool true)).cell? ⟨b, 3, none⟩ = some (.int .u32 0) := (World.cell?_setCell_other _ ⟨pf, 0, none⟩ ⟨b, 3, none⟩ _ (by simp)).trans hc
  go_enter_defers Try.func36, Try.ntmps36
  go_wp2_with (first | (go_at_call 19; refine (closed_any b 0 _ hc1).mono ?_; rintro e w' ⟨rfl, rfl⟩) | (go_at_call 22; go_in))
  go_end0
  go_wp2
  refine leaves_cons (f := 37) (args := #[.pointer (some ⟨b, 3, none⟩), .bool true]) (by simp) (by simp [go_sem]) ?_
  refine (store_deferred ⟨b, 3, none⟩ (.int .u32 0) .returning _ ?_ ?_).mono ?_
  · exact (World.cell?_setCell_other _ ⟨cn, 0, none⟩ ⟨b, 3, none⟩ _ (by simp)).trans hc1
  · simp [zc]
  rintro e u' w'' ⟨rfl, rfl, rfl⟩
  simp [Leaves, settle, results, Try.results36]

set_option maxRecDepth 100000 in
set_option maxHeartbeats 1600000 in
/-- The once's slow road, not yet done and the lock free, whatever the function handed in does between. -/
theorem slow_gen (b : Nat) (caps : Array Value) (w W2 : World) (h0 : w.cell? ⟨b, 0, none⟩ = some (.int .u32 0)) (h1 : w.cell? ⟨b, 1, none⟩ = some (.int .i32 0)) (f0 : w.frozen? ⟨b, 0, none⟩ = false) (f1 : w.frozen? ⟨b, 1, none⟩ = false)
    (hb : Calls Try.prog 36 caps (w.setCell ⟨b, 1, none⟩ (.int .i32 1)) fun e w' => e = .returned (.tuple #[]) ∧ w' = W2)
    (k0 : W2.cell? ⟨b, 0, none⟩ = some (.int .u32 0)) (k1 : W2.cell? ⟨b, 1, none⟩ = some (.int .i32 1)) (g0 : W2.frozen? ⟨b, 0, none⟩ = false) (g1 : W2.frozen? ⟨b, 1, none⟩ = false) :
    Calls Try.prog 46 #[.pointer (some ⟨b, 0, none⟩), .func (.func 36) #[] caps] w fun e w' => e = .returned (.tuple #[]) ∧ w' = (W2.drew.setCell ⟨b, 0, none⟩ (.int .u32 1)).setCell ⟨b, 1, none⟩ (.int .i32 0) := by
  have HB : Hid (Calls Try.prog 36 caps (w.setCell ⟨b, 1, none⟩ (.int .i32 1)) fun e w' => e = .returned (.tuple #[]) ∧ w' = W2) := hb
  clear hb
  have h01 : (w.setCell ⟨b, 1, none⟩ (.int .i32 1)).cell? ⟨b, 0, none⟩ = some (.int .u32 0) := (World.cell?_setCell_other _ ⟨b, 1, none⟩ ⟨b, 0, none⟩ _ (by simp)).trans h0
  go_enter_defers Try.func46, Try.ntmps46
  go_wp2_with fail
  refine (lock_free ⟨b, 1, none⟩ _ h1 f1).mono ?_
  rintro e w' ⟨rfl, rfl⟩
  go_wp2_with fail
  refine (loadB_any b 0 0 _ h01).mono ?_
  rintro e w' ⟨rfl, rfl⟩
  go_wp2_with fail
  refine HB.out.mono ?_
  rintro e w' ⟨rfl, rfl⟩
  go_wp2
  refine leaves_cons (f := 37) (args := #[.pointer (some ⟨b, 0, none⟩), .bool true]) (by simp) (by simp [go_sem]) ?_
  refine (store_deferred ⟨b, 0, none⟩ (.int .u32 0) .returning _ k0 g0).mono ?_
  rintro e u' w'' ⟨rfl, rfl, rfl⟩
  refine leaves_cons (f := 56) (args := #[.pointer (some ⟨b, 1, none⟩)]) (by simp [settle]) (by simp [go_sem]) ?_
  refine (unlock_deferred ⟨b, 1, none⟩ _ _ ?_ (by simp [g1])).mono ?_
  · refine (World.cell?_setCell_other _ ⟨b, 0, none⟩ ⟨b, 1, none⟩ _ (by simp)).trans ?_
    rw [World.cell?_drew]
    exact k1
  rintro e u' w'' ⟨rfl, rfl, rfl⟩
  simp [Leaves, settle, results, Try.results46]

set_option maxRecDepth 100000 in
set_option maxHeartbeats 1600000 in
/-- Do, not yet done and the lock free. -/
theorem do_gen (b : Nat) (caps : Array Value) (w W2 : World) (h0 : w.cell? ⟨b, 0, none⟩ = some (.int .u32 0)) (h1 : w.cell? ⟨b, 1, none⟩ = some (.int .i32 0)) (f0 : w.frozen? ⟨b, 0, none⟩ = false) (f1 : w.frozen? ⟨b, 1, none⟩ = false)
    (hb : Calls Try.prog 36 caps (w.setCell ⟨b, 1, none⟩ (.int .i32 1)) fun e w' => e = .returned (.tuple #[]) ∧ w' = W2)
    (k0 : W2.cell? ⟨b, 0, none⟩ = some (.int .u32 0)) (k1 : W2.cell? ⟨b, 1, none⟩ = some (.int .i32 1)) (g0 : W2.frozen? ⟨b, 0, none⟩ = false) (g1 : W2.frozen? ⟨b, 1, none⟩ = false) :
    Calls Try.prog 35 #[.pointer (some ⟨b, 0, none⟩), .func (.func 36) #[] caps] w fun e w' => e = .returned (.tuple #[]) ∧ w' = (W2.drew.setCell ⟨b, 0, none⟩ (.int .u32 1)).setCell ⟨b, 1, none⟩ (.int .i32 0) := by
  have HS : Hid (Calls Try.prog 46 #[.pointer (some ⟨b, 0, none⟩), .func (.func 36) #[] caps] w fun e w' => e = .returned (.tuple #[]) ∧ w' = (W2.drew.setCell ⟨b, 0, none⟩ (.int .u32 1)).setCell ⟨b, 1, none⟩ (.int .i32 0)) := slow_gen b caps w W2 h0 h1 f0 f1 hb k0 k1 g0 g1
  clear hb
  go_enter Try.func35, Try.ntmps35
  go_wp2_with fail
  refine (loadB_any b 0 0 _ h0).mono ?_
  rintro e w' ⟨rfl, rfl⟩
  go_wp2_with fail
  refine HS.out.mono ?_
  rintro e w' ⟨rfl, rfl⟩
  go_wp2
  go_end0
  exact ⟨rfl, rfl⟩

/-- Do, done already. -/
theorem do_done (b : Nat) (fv : Value) (w : World) (h0 : w.cell? ⟨b, 0, none⟩ = some (.int .u32 1)) :
    Calls Try.prog 35 #[.pointer (some ⟨b, 0, none⟩), fv] w fun e w' => e = .returned (.tuple #[]) ∧ w' = w := by
  go_enter Try.func35, Try.ntmps35
  go_wp2_with fail
  refine (loadB_any b 0 1 _ h0).mono ?_
  rintro e w' ⟨rfl, rfl⟩
  go_wp2
  go_end0
  exact ⟨rfl, rfl⟩
end Go.Proofs.Ytmmileafiainnaa
