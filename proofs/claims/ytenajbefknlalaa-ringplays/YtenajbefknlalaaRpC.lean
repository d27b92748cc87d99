/- The reference's rings: Put. -/
import Derived.Test.YtenajbefknlalaaRpB
namespace Go.Proofs.Ytenajbefknlalaa
open Go.RowKit
set_option linter.unusedVariables false

theorem Mat.more {F : Nat → Prop} {A B : Nat} {w : World} {v : Value} {Ls : List (List UInt8)} (h : Mat (fun i => F i ∨ (A ≤ i ∧ i < B)) w v Ls) {A' B' : Nat} (hA : A' ≤ A) (hB : B ≤ B') : Mat (fun i => F i ∨ (A' ≤ i ∧ i < B')) w v Ls :=
  h.frame (fun _ _ => rfl) (fun k hk => by rcases hk with c | c; exact .inl c; exact .inr ⟨by omega, by omega⟩)

set_option maxRecDepth 100000 in
set_option maxHeartbeats 4000000 in
theorem r3put_no (F : Nat → Prop) (w : World) (v vb : Value) (Ls : List (List UInt8)) (k kb : Nat) (b : List UInt8) (h q m : Int) (hM : Mat F w v Ls) (hF : ∀ i, F i → i < w.heap.size) (hb : Src w kb vb b)
    (h0 : 0 ≤ h) (h1 : h ≤ m) (h2 : m ≤ 1099511627776) (hno : m - h < (b.length : Int)) :
    Calls Try.prog 8 #[.agg #[.int .i64 h, .int .i64 q, .int .i64 m, v], .int .i64 k, vb] w fun e w' => e = .returned (.tuple #[.agg #[.int .i64 h, .int .i64 q, .int .i64 m, v], .bool false]) ∧ Below w.heap.size w w' := by
  obtain ⟨ba, bc, rfl, hbq⟩ := hb
  clear hbq
  obtain ⟨g, c, Vs, rfl, hg, x1, x2, x3, x4, x5⟩ := hM
  clear x1 x2 x3 x4 x5
  have HT := fun W : World => rtake_any m h q (b.length : Int) W h0 h1 h2
  have e3 : rpk m h q (b.length : Int) = q := by unfold rpk; rw [if_neg (by omega)]
  rw [(tk_no (m := m) (h := h) (n := (b.length : Int)) (.inr hno)).1, (tk_no (m := m) (h := h) (n := (b.length : Int)) (.inr hno)).2, e3] at HT
  clear e3 hno
  generalize b.length = bl at *
  generalize Ls.length = ll at *
  go_enter Try.func8, Try.ntmps8
  go_wp2_with fail
  refine (HT _).mono ?_
  rintro e w1 ⟨rfl, B1⟩
  have hs : w.heap.size + 2 ≤ w1.heap.size := by have := B1.size; simpa using this
  have N0 : w1.heap[w.heap.size]? = some (.cells #[.int .i64 h, .int .i64 q, .int .i64 m, .slice (some ⟨g, 0, none⟩) ll c] 33) := (B1.block _ (by simp; omega)).trans ((Below.heap_alloc _ _ _ (by simp)).trans (new_at _ _))
  have N1 : w1.heap[w.heap.size + 1]? = some (.cells #[.int .i64 0, .int .i64 0, .int .i64 0, .slice none 0 0] 33) := by
    refine (B1.block _ (by simp)).trans ?_
    have k := new_at (w.alloc (.cells #[.int .i64 h, .int .i64 q, .int .i64 m, .slice (some ⟨g, 0, none⟩) ll c] 33)) (.cells #[.int .i64 0, .int .i64 0, .int .i64 0, .slice none 0 0] 33)
    rw [show (w.alloc (.cells #[.int .i64 h, .int .i64 q, .int .i64 m, .slice (some ⟨g, 0, none⟩) ll c] 33)).heap.size = w.heap.size + 1 by simp] at k
    exact k
  have D1 : Below w.heap.size w w1 := (((Below.refl _ _).alloc (Nat.le_refl _) _).alloc (by simp) _).trans (B1.mono (by simp; omega))
  clear B1 HT
  have hl0 : w.heap.size < w1.heap.size := by omega
  have hl1 : w.heap.size + 1 < w1.heap.size := by omega
  have c0 : w1.cell? ⟨w.heap.size, 0, none⟩ = some (.int .i64 h) := ring_cell N0 rfl
  have c1 : w1.cell? ⟨w.heap.size, 1, none⟩ = some (.int .i64 q) := ring_cell N0 rfl
  have c2 : w1.cell? ⟨w.heap.size, 2, none⟩ = some (.int .i64 m) := ring_cell N0 rfl
  have c3 : w1.cell? ⟨w.heap.size, 3, none⟩ = some (.slice (some ⟨g, 0, none⟩) ll c) := ring_cell N0 rfl
  have d0 : w1.cell? ⟨w.heap.size + 1, 0, none⟩ = some (.int .i64 0) := ring_cell N1 rfl
  have d1 : w1.cell? ⟨w.heap.size + 1, 1, none⟩ = some (.int .i64 0) := ring_cell N1 rfl
  have d2 : w1.cell? ⟨w.heap.size + 1, 2, none⟩ = some (.int .i64 0) := ring_cell N1 rfl
  have d3 : w1.cell? ⟨w.heap.size + 1, 3, none⟩ = some (.slice none 0 0) := ring_cell N1 rfl
  have z0 : w1.frozen? ⟨w.heap.size + 1, 0, none⟩ = false := ring_z N1
  have z1 : w1.frozen? ⟨w.heap.size + 1, 1, none⟩ = false := ring_z N1
  have z2 : w1.frozen? ⟨w.heap.size + 1, 2, none⟩ = false := ring_z N1
  have z3 : w1.frozen? ⟨w.heap.size + 1, 3, none⟩ = false := ring_z N1
  clear N0 N1 hs
  go_wp2
  refine bodyPost_ret (v := .tuple #[.agg #[.int .i64 h, .int .i64 q, .int .i64 m, .slice (some ⟨g, 0, none⟩) ll c], .bool false]) (by simp [results, Try.results8, go_sem, *]) rfl ⟨rfl, ?_⟩
  repeat (first | exact D1 | (refine Below.setCell ?_ (by simp) _) | (refine Below.alloc ?_ (by simp; omega) _))
end Go.Proofs.Ytenajbefknlalaa
