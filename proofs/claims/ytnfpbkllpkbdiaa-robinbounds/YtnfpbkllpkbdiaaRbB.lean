/- A row of flows in memory that may be written. -/
import Derived.Test.YtnfpbkllpkbdiaaRbP
namespace Go.Proofs.Ytnfpbkllpkbdiaa
open Go.RowKit
set_option linter.unusedVariables false

/-- In block g, from cell off on, c places: flows. -/
def FO (w : World) (g off c : Nat) (l : List Fl) : Prop := ∃ cur : Array Value, w.heap[g]? = some (.cells cur 31) ∧ cur.size = off + c * 2 ∧ l.length ≤ c ∧ ∀ (j : Nat), j < l.length → cur[off + j * 2]? = some (.int .i64 (l.getD j (0, 0)).1) ∧ cur[off + j * 2 + 1]? = some (.int .i64 (l.getD j (0, 0)).2)
theorem FO.lt {w : World} {g off c : Nat} {l : List Fl} (h : FO w g off c l) : g < w.heap.size := by
  obtain ⟨cur, h1, _⟩ := h
  exact (Array.getElem?_eq_some_iff.1 h1).1
theorem FO.len {w : World} {g off c : Nat} {l : List Fl} (h : FO w g off c l) : l.length ≤ c := by
  obtain ⟨cur, h1, h2, h3, _⟩ := h; exact h3
theorem FO.c0 {w : World} {g off c : Nat} {l : List Fl} (h : FO w g off c l) (j : Nat) (hj : j < l.length) : w.cell? ⟨g, off + j * 2, none⟩ = some (.int .i64 (l.getD j (0, 0)).1) := by
  obtain ⟨cur, h1, h2, h3, h4⟩ := h
  exact tblk_cell h1 (h4 j hj).1
theorem FO.c1 {w : World} {g off c : Nat} {l : List Fl} (h : FO w g off c l) (j : Nat) (hj : j < l.length) : w.cell? ⟨g, off + j * 2 + 1, none⟩ = some (.int .i64 (l.getD j (0, 0)).2) := by
  obtain ⟨cur, h1, h2, h3, h4⟩ := h
  exact tblk_cell h1 (h4 j hj).2
theorem FO.z {w : World} {g off c : Nat} {l : List Fl} (h : FO w g off c l) (o : Nat) : w.frozen? ⟨g, o, none⟩ = false := by
  obtain ⟨cur, h1, _⟩ := h
  simp [World.frozen?, h1]
theorem FO.below {B : Nat} {w w' : World} {g off c : Nat} {l : List Fl} (h : FO w g off c l) (b : Below B w w') (hg : g < B) : FO w' g off c l := by
  obtain ⟨cur, h1, r⟩ := h
  exact ⟨cur, (b.block g hg).trans h1, r⟩
theorem heap_set {w : World} {g o : Nat} {cur : Array Value} {t : TypeId} {v : Value} (h : w.heap[g]? = some (.cells cur t)) (ho : o < cur.size) : (w.setCell ⟨g, o, none⟩ v).heap[g]? = some (.cells (cur.setIfInBounds o v) t) := by
  simp [World.setCell, Array.getElem?_modify, h]
/-- A flow put into its place. -/
theorem FO.set {w : World} {g off c : Nat} {l : List Fl} (h : FO w g off c l) (j : Nat) (hj : j < l.length) (a b : Int) : FO ((w.setCell ⟨g, off + j * 2, none⟩ (.int .i64 a)).setCell ⟨g, off + j * 2 + 1, none⟩ (.int .i64 b)) g off c (l.set j (a, b)) := by
  obtain ⟨cur, h1, h2, h3, h4⟩ := h
  have k1 := heap_set (v := .int .i64 a) h1 (show off + j * 2 < cur.size by omega)
  have k2 := heap_set (v := .int .i64 b) k1 (show off + j * 2 + 1 < (cur.setIfInBounds (off + j * 2) (.int .i64 a)).size by rw [Array.size_setIfInBounds]; omega)
  refine ⟨_, k2, by simp [h2], by simpa using h3, fun i hi => ?_⟩
  have hi' : i < l.length := by simpa using hi
  have r := h4 i hi'
  have e : (l.set j (a, b)).getD i (0, 0) = if j = i then (a, b) else l.getD i (0, 0) := by
    simp only [List.getD_eq_getElem?_getD, List.getElem?_set]
    by_cases q : j = i
    · subst q; simp [hj]
    · simp [q]
  rw [e]
  simp only [Array.getElem?_setIfInBounds, Array.size_setIfInBounds]
  by_cases q : j = i
  · subst q
    rw [show (if j = j then (a, b) else l.getD j (0, 0)) = (a, b) from if_pos rfl]
    exact ⟨by rw [if_neg (by omega), if_pos rfl, if_pos (by omega)], by rw [if_pos rfl, if_pos (by omega)]⟩
  · rw [if_neg q, if_neg (by omega), if_neg (by omega), if_neg (by omega), if_neg (by omega)]
    exact r
/-- Fewer flows of a row; a row from later on. -/
theorem FO.take {w : World} {g off c : Nat} {l : List Fl} (h : FO w g off c l) (k : Nat) : FO w g off c (l.take k) := by
  obtain ⟨cur, h1, h2, h3, h4⟩ := h
  refine ⟨cur, h1, h2, Nat.le_trans (List.length_take_le' _ _) h3, fun j hj => ?_⟩
  have hj2 : j < k ∧ j < l.length := by rw [List.length_take] at hj; omega
  have e : (l.take k).getD j (0, 0) = l.getD j (0, 0) := by simp [List.getD_eq_getElem?_getD, hj2.1]
  rw [e]; exact h4 j hj2.2
theorem FO.drop {w : World} {g off c : Nat} {l : List Fl} (h : FO w g off c l) (k : Nat) (hk : k ≤ c) : FO w g (off + k * 2) (c - k) (l.drop k) := by
  obtain ⟨cur, h1, h2, h3, h4⟩ := h
  refine ⟨cur, h1, by omega, by rw [List.length_drop]; omega, fun j hj => ?_⟩
  rw [List.length_drop] at hj
  have e : (l.drop k).getD j (0, 0) = l.getD (k + j) (0, 0) := by simp [List.getD_eq_getElem?_getD, List.getElem?_drop]
  rw [e]
  have r := h4 (k + j) (by omega)
  rw [show off + (k + j) * 2 = off + k * 2 + j * 2 by omega] at r
  exact r
theorem FO.drew {w : World} {g off c : Nat} {l : List Fl} (h : FO w g off c l) : FO w.drew g off c l := h
end Go.Proofs.Ytnfpbkllpkbdiaa
