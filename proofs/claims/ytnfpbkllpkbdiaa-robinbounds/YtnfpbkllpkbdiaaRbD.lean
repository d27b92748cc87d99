/- slices.SortStableFunc of at most 20 flows: its frame. -/
import Derived.Test.YtnfpbkllpkbdiaaRbC
namespace Go.Proofs.Ytnfpbkllpkbdiaa
open Go.RowKit
set_option linter.unusedVariables false

set_option maxHeartbeats 1000000 in
theorem rbins_none (v fv : Value) (x y : Int) (hx : 0 ≤ x) (hx2 : x ≤ 20) (hxy : ¬ x + 1 < y) (w : World) :
    Calls Try.prog 22 #[v, .int .i64 x, .int .i64 y, fv] w fun e w' => e = .returned (.tuple #[]) ∧ w' = w := by
  have hw : IntKind.i64.wrap (x + 1) = x + 1 := by rw [IntKind.wrap_i64]; omega
  go_enter Try.func22, Try.ntmps22
  go_wp2_with fail
  refine wp_loop_rounds 1 ?_
  rw [rounds_succ]
  go_wp2
  go_end0
  exact ⟨rfl, rfl⟩
set_option maxRecDepth 100000 in
set_option maxHeartbeats 4000000 in
theorem rbstable_any (l : List Fl) (B g off c p2 p rb : Nat) (q cr la : Int) (w : World) (hl : l.length ≤ 20) (hF : FO w g off c l) (hg : B ≤ g) (hE : Env B w p2 p rb q cr la) (hc : c ≤ 9223372036854775807) :
    Calls Try.prog 19 #[.slice (some ⟨g, off, none⟩) l.length c, .int .i64 l.length, .func (.func 13) #[] #[.pointer (some ⟨p2, 0, none⟩)]] w fun e w' => e = .returned (.tuple #[]) ∧ ∃ s, FO w' g off c s ∧ Stab l s ∧ SrtTo la s s.length ∧ Below B w w' := by
  have HI := hidE (rbins_any l B g off c p2 p rb q cr la w (by omega) hF hg hE hc)
  obtain ⟨n, hn⟩ : ∃ n, n = l.length := ⟨_, rfl⟩
  rw [← hn] at hl HI ⊢
  clear hF hE hn hc
  by_cases h20 : n = 20
  · subst h20
    have HZ : Hid (∀ W, Calls Try.prog 22 #[.slice (some ⟨g, off, none⟩) 20 c, .int .i64 20, .int .i64 20, .func (.func 13) #[] #[.pointer (some ⟨p2, 0, none⟩)]] W fun e w' => e = .returned (.tuple #[]) ∧ w' = W) := fun W => rbins_none _ _ 20 20 (by omega) (by omega) (by omega) W
    go_enter Try.func19, Try.ntmps19
    go_wp2_with fail
    refine wp_loop_rounds 2 ?_
    rw [rounds_succ]
    go_wp2_with fail
    refine HI.out.mono ?_
    rintro e w' ⟨rfl, hs⟩
    go_wp2_with fail
    rw [rounds_succ]
    go_wp2_with fail
    refine (HZ.out _).mono ?_
    rintro e w2 ⟨rfl, rfl⟩
    go_wp2_with fail
    refine wp_loop_rounds 1 ?_
    rw [rounds_succ]
    go_wp2
    go_end0
    exact ⟨rfl, hs⟩
  · have h1 : ¬ 20 ≤ n := by omega
    have h2 : ¬ 20 < n := by omega
    have h3 : decide (20 ≤ n) = false := decide_eq_false h1
    have h4 : decide (20 < n) = false := decide_eq_false h2
    go_enter Try.func19, Try.ntmps19
    go_wp2_with fail
    refine wp_loop_rounds 1 ?_
    rw [rounds_succ]
    go_wp2_with fail
    refine HI.out.mono ?_
    rintro e w' ⟨rfl, hs⟩
    go_wp2_with fail
    refine wp_loop_rounds 1 ?_
    rw [rounds_succ]
    go_wp2
    go_end0
    exact ⟨rfl, hs⟩
set_option maxHeartbeats 1000000 in
theorem rbsort_any (l : List Fl) (B g off c p2 p rb : Nat) (q cr la : Int) (w : World) (hl : l.length ≤ 20) (hF : FO w g off c l) (hg : B ≤ g) (hE : Env B w p2 p rb q cr la) (hc : c ≤ 9223372036854775807) :
    Calls Try.prog 12 #[.slice (some ⟨g, off, none⟩) l.length c, .func (.func 13) #[] #[.pointer (some ⟨p2, 0, none⟩)]] w fun e w' => e = .returned (.tuple #[]) ∧ ∃ s, FO w' g off c s ∧ Stab l s ∧ SrtTo la s s.length ∧ Below B w w' := by
  have HI := hidE (rbstable_any l B g off c p2 p rb q cr la w hl hF hg hE hc)
  clear hF hE hl hc
  go_enter Try.func12, Try.ntmps12
  go_wp2_with fail
  refine HI.out.mono ?_
  rintro e w' ⟨rfl, hs⟩
  go_wp2
  go_end0
  exact ⟨rfl, hs⟩
set_option maxRecDepth 100000 in
set_option maxHeartbeats 1000000 in
theorem rbstable_none (a : Option Addr) (c : Nat) (fv : Value) (w : World) :
    Calls Try.prog 19 #[.slice a 0 c, .int .i64 0, fv] w fun e w' => e = .returned (.tuple #[]) ∧ w' = w := by
  have HZ := hidE (rbins_none (.slice a 0 c) fv 0 0 (by omega) (by omega) (by omega) w)
  go_enter Try.func19, Try.ntmps19
  go_wp2_with fail
  refine wp_loop_rounds 1 ?_
  rw [rounds_succ]
  go_wp2_with fail
  refine HZ.out.mono ?_
  rintro e w' ⟨rfl, rfl⟩
  go_wp2_with fail
  refine wp_loop_rounds 1 ?_
  rw [rounds_succ]
  go_wp2
  go_end0
  exact ⟨rfl, rfl⟩
set_option maxHeartbeats 1000000 in
theorem rbsort_none (a : Option Addr) (c : Nat) (fv : Value) (w : World) :
    Calls Try.prog 12 #[.slice a 0 c, fv] w fun e w' => e = .returned (.tuple #[]) ∧ w' = w := by
  have HI := hidE (rbstable_none a c fv w)
  go_enter Try.func12, Try.ntmps12
  go_wp2_with fail
  refine HI.out.mono ?_
  rintro e w' ⟨rfl, rfl⟩
  go_wp2
  go_end0
  exact ⟨rfl, rfl⟩
end Go.Proofs.Ytnfpbkllpkbdiaa
