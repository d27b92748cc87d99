/- A map of what each connection wants; a row of numbers that grows: for RobinBounds. -/
import Derived.Test.YtnfpbkllpkbdiaaRxA
import Derived.Maps.OwnOps
import Derived.Maps.OwnSet
import Derived.Maps.Views
namespace Go.Proofs.Ytnfpbkllpkbdiaa
open Go.RowKit
set_option linter.unusedVariables false

/-- Numbers in a row of one's own. -/
def OI (B : Nat) (w : World) (v : Value) (C : List Int) : Prop := w.ownsRow B 3 1 v C.length (C.map (Value.int .i64))
theorem OI.empty (B : Nat) (w : World) (hB : B ≤ w.heap.size) : OI B (w.alloc (.cells #[] 3)) (.slice (some ⟨w.heap.size, 0, none⟩) 0 0) [] :=
  ⟨rfl, .inr ⟨w.heap.size, 0, #[], rfl, hB, tblk_new _ _, Nat.le_refl _, by decide, rfl, rfl⟩⟩
theorem OI.block {B : Nat} {w w' : World} {v : Value} {C : List Int} (h : OI B w v C) (hk : ∀ (k : Nat) (cur : Array Value), w.heap[k]? = some (Obj.cells cur 3) → B ≤ k → w'.heap[k]? = w.heap[k]?) : OI B w' v C := by
  obtain ⟨h1, h2⟩ := h
  refine ⟨h1, ?_⟩
  rcases h2 with h2 | ⟨g, c, cur, hv, hB, hg, r⟩
  · exact .inl h2
  · exact .inr ⟨g, c, cur, hv, hB, (hk g cur hg hB).trans hg, r⟩
theorem OI.grow {B : Nat} {w w' : World} {v : Value} {C : List Int} (h : OI B w v C) (b : Below w.heap.size w w') : OI B w' v C := h.block fun k cur hk _ => b.block k (Array.getElem?_eq_some_iff.1 hk).1
theorem OI.at {B : Nat} {w : World} {v : Value} {C : List Int} (h : OI B w v C) : ∃ a c, v = .slice a C.length c ∧ (0 < C.length → ∃ g, a = some ⟨g, 0, none⟩ ∧ B ≤ g ∧ g < w.heap.size ∧ ∀ j, j < C.length → w.cell? ⟨g, j, none⟩ = some (.int .i64 (C.getD j 0))) := by
  obtain ⟨h1, ⟨h2, h3⟩ | ⟨g, c, cur, hv, hB, hg, hlc, hm, hs, ht⟩⟩ := h
  · exact ⟨none, 0, by rw [h2, h3], fun q => by omega⟩
  · refine ⟨_, c, hv, fun _ => ⟨g, rfl, hB, (Array.getElem?_eq_some_iff.1 hg).1, fun j hj => tblk_cell hg ?_⟩⟩
    have e : cur[j]? = (C.map (Value.int .i64))[j]? := by rw [← ht, Nat.mul_one, List.getElem?_take_of_lt hj, Array.getElem?_toList]
    rw [e, List.getElem?_map, List.getElem?_eq_getElem hj, List.getD_eq_getElem?_getD, List.getElem?_eq_getElem hj]
    rfl
theorem infoInt : (Try.prog.info? 3).map (fun i => (i.zero, i.size, i.bytes)) = some (some (.int .i64 0), 1, 8) := by kernel_rfl
theorem oi_append {B : Nat} {w : World} {v : Value} {C : List Int} (h : OI B w v C) (hB : B ≤ w.heap.size) (x : Int) (hl : C.length ≤ 1000000) :
    ∃ v' w', (Builtin.append_ #[28, 28] 28 #[v, .slice (some ⟨w.heap.size, 0, none⟩) 1 1]).run Try.prog (w.alloc (.cells #[.int .i64 x] 3)) = .ok v' w' ∧ OI B w' v' (C ++ [x]) ∧ Below B w w' ∧ ∀ k, k < w.heap.size → v.ownBlock ≠ some k → w'.heap[k]? = w.heap[k]? := by
  obtain ⟨i, hi, hz0, hz1, hz2⟩ := info_parts infoInt
  have BA : Below w.heap.size w (w.alloc (.cells #[.int .i64 x] 3)) := (Below.refl _ _).alloc (Nat.le_refl _) _
  have hA := h.grow BA
  obtain ⟨v', w', hr, q1, q2, q3, q4⟩ := run_append_own_at (P := Try.prog) _ B 28 28 3 i (.int .i64 0) 1 8 Try.underlying28 hi hz0 hz1 hz2 rfl (by decide) v C.length (C.map (Value.int .i64)) hA ⟨w.heap.size, 0, none⟩ 1 1 [.int .i64 x] rfl (cell_one_new w (.int .i64 x) 3) (by intro u hu; rw [List.mem_singleton.1 hu]; rfl) (by unfold maxLen; omega) (by omega) (Nat.le_trans hB BA.size)
  refine ⟨v', w', hr, ?_, (BA.mono hB).trans ((Below.refl _ _).grown q2 (Nat.le_trans hB BA.size) (fun q hq => (World.ownsRow.lt hA q hq).1)), fun k hk hn => (q2.block k (by have := BA.size; omega) (fun e => hn e.symm)).trans (BA.block k hk)⟩
  unfold OI
  rw [List.length_append, List.map_append]; exact q1
/-- The map holds what each of C wants, and no other one. -/
structure MW (C : List Int) (U : Int → Int) (D : DataW Nat) : Prop where
  v : ∀ c ∈ C, D.atKey (.int .i64 c) (.lit (.int .i64 0)) = .lit (.int .i64 (U c))
  h : ∀ c, Maps.has D (.int .i64 c) = decide (c ∈ C)
theorem MW.start (U : Int → Int) : MW [] U (.map []) := ⟨(fun c hc => by cases hc), fun c => rfl⟩
theorem MW.new {C : List Int} {U : Int → Int} {D : DataW Nat} (h : MW C U D) (hm : Maps.IsMap D) (x y : Int) (hx : x ∉ C) : MW (C ++ [x]) (fun c => if c = x then y else U c) (D.put (.int .i64 x) (.lit (.int .i64 y))) := by
  refine ⟨fun c hc => ?_, fun c => ?_⟩
  · by_cases e : c = x
    · rw [if_pos e, e, Maps.atKey_put_same hm (by exact trivial)]
    · rw [if_neg e, Maps.atKey_put_other (fun q => e (by injection q))]
      refine h.v c ?_
      rcases List.mem_append.1 hc with q | q
      · exact q
      · exact absurd (List.mem_singleton.1 q) e
  · by_cases e : c = x
    · rw [e, Maps.has_put_same hm (by exact trivial)]
      exact (decide_eq_true (List.mem_append.2 (.inr (List.mem_singleton.2 rfl)))).symm
    · rw [Maps.has_put_other (fun q => e (by injection q)), h.h c]
      have : c ∈ C ++ [x] ↔ c ∈ C := by rw [List.mem_append, List.mem_singleton]; exact ⟨fun q => q.elim id (fun r => absurd r e), .inl⟩
      simp only [this]
theorem MW.set {C : List Int} {U : Int → Int} {D : DataW Nat} (h : MW C U D) (hm : Maps.IsMap D) (x y : Int) (hx : x ∈ C) : MW C (fun c => if c = x then y else U c) (D.put (.int .i64 x) (.lit (.int .i64 y))) := by
  refine ⟨fun c hc => ?_, fun c => ?_⟩
  · by_cases e : c = x
    · rw [if_pos e, e, Maps.atKey_put_same hm (by exact trivial)]
    · rw [if_neg e, Maps.atKey_put_other (fun q => e (by injection q))]
      exact h.v c hc
  · by_cases e : c = x
    · rw [e, Maps.has_put_same hm (by exact trivial)]
      exact (decide_eq_true hx).symm
    · rw [Maps.has_put_other (fun q => e (by injection q)), h.h c]
/-- What all of them want. -/
def usum (U : Int → Int) (C : List Int) : Int := (C.map U).sum
theorem usum_nn {U : Int → Int} : ∀ {C : List Int}, (∀ c ∈ C, 0 ≤ U c) → 0 ≤ usum U C
  | [], _ => Int.le_refl _
  | x :: C, h => by
    have h1 := h x (List.mem_cons_self ..)
    have h2 := usum_nn (C := C) (fun c hc => h c (List.mem_cons_of_mem _ hc))
    show 0 ≤ U x + usum U C
    omega
theorem usum_zero {U : Int → Int} : ∀ {C : List Int}, (∀ c ∈ C, 0 ≤ U c) → (usum U C = 0 ↔ ∀ c ∈ C, U c = 0)
  | [], _ => ⟨fun _ c hc => (by cases hc), fun _ => rfl⟩
  | x :: C, h => by
    have ih := usum_zero (C := C) (fun c hc => h c (List.mem_cons_of_mem _ hc))
    have hx := h x (List.mem_cons_self ..)
    have hs := usum_nn (C := C) (fun c hc => h c (List.mem_cons_of_mem _ hc))
    have e : usum U (x :: C) = U x + usum U C := rfl
    rw [e]
    constructor
    · intro q c hc
      rcases List.mem_cons.1 hc with r | r
      · rw [r]; omega
      · exact ih.1 (by omega) c r
    · intro q
      have h1 := q x (List.mem_cons_self ..)
      have h2 := ih.2 (fun c hc => q c (List.mem_cons_of_mem _ hc))
      omega
theorem usum_le {U : Int → Int} {b : Int} : ∀ {C : List Int}, (∀ c ∈ C, U c ≤ b) → usum U C ≤ b * (C.length : Int)
  | [], _ => by show (0 : Int) ≤ b * 0; omega
  | x :: C, h => by
    have h1 := h x (List.mem_cons_self ..)
    have h2 := usum_le (C := C) (fun c hc => h c (List.mem_cons_of_mem _ hc))
    show U x + usum U C ≤ b * ((C.length : Int) + 1)
    rw [Int.mul_add, Int.mul_one]
    omega
end Go.Proofs.Ytnfpbkllpkbdiaa
