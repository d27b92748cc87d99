/- A queue that is taken from ahead and put to behind; grants that grow. -/
import Derived.Test.YtnfpbkllpkbdiaaRbI
import Derived.ArgAppend
namespace Go.Proofs.Ytnfpbkllpkbdiaa
open Go.RowKit
set_option linter.unusedVariables false

/-- Grants in a row of one's own. -/
def GO (B : Nat) (w : World) (v : Value) (gs : List Fl) : Prop := w.ownsRow B 36 2 v gs.length (rowW gs)
theorem GO.nil (B : Nat) (w : World) : GO B w (.slice none 0 0) [] := World.ownsRow_nil _ _ _ _
theorem GO.form {B : Nat} {w : World} {v : Value} {gs : List Fl} (h : GO B w v gs) : ∃ a c, v = .slice a gs.length c := by
  obtain ⟨_, ⟨h2, h3⟩ | ⟨g, c, cur, hv, _⟩⟩ := h
  · exact ⟨none, 0, by rw [h2, h3]⟩
  · exact ⟨_, c, hv⟩
theorem GO.blk {B : Nat} {w : World} {v : Value} {gs : List Fl} (h : GO B w v gs) : ∀ k, v.ownBlock = some k → ∃ cur, w.heap[k]? = some (.cells cur 36) := by
  obtain ⟨_, ⟨h2, h3⟩ | ⟨g, c, cur, hv, hB, hg, _⟩⟩ := h
  · subst h2; intro k hk; cases hk
  · subst hv; intro k hk
    obtain rfl : g = k := by simpa [Value.ownBlock] using hk
    exact ⟨cur, hg⟩
theorem GO.move {B : Nat} {w w' : World} {v : Value} {gs : List Fl} (h : GO B w v gs) (hk : ∀ (k : Nat) (cur : Array Value), w.heap[k]? = some (Obj.cells cur 36) → w'.heap[k]? = w.heap[k]?) : GO B w' v gs := by
  obtain ⟨h1, h2⟩ := h
  refine ⟨h1, ?_⟩
  rcases h2 with h2 | ⟨g, c, cur, hv, hB, hg, r⟩
  · exact .inl h2
  · exact .inr ⟨g, c, cur, hv, hB, (hk g cur hg).trans hg, r⟩
theorem infoG : (Try.prog.info? 36).map (fun i => (i.zero, i.size, i.bytes)) = some (some (.agg #[.int .i64 0, .int .i64 0]), 2, 16) := by kernel_rfl
theorem new_two (w : World) (x y : Int) (t : TypeId) : ∀ j u, (rowW [(x, y)])[j]? = some u → (w.alloc (.cells #[.int .i64 x, .int .i64 y] t)).cell? ((⟨w.heap.size, 0, none⟩ : Addr).add j) = some u := by
  intro j u hj
  rw [addr_add, Nat.zero_add]
  refine tblk_cell (tblk_new _ _) ?_
  have e : rowW [(x, y)] = [.int .i64 x, .int .i64 y] := rfl
  rw [e] at hj
  simpa using hj
/-- A grant put behind the others. -/
theorem grant_append {B : Nat} {w : World} {v : Value} {gs : List Fl} (h : GO B w v gs) (hB : B ≤ w.heap.size) (x y : Int) (hl : gs.length ≤ 2199023255552) :
    ∃ v' w', (Builtin.append_ #[33, 33] 33 #[v, .slice (some ⟨w.heap.size, 0, none⟩) 1 1]).run Try.prog (w.alloc (.cells #[.int .i64 x, .int .i64 y] 36)) = .ok v' w' ∧ GO B w' v' (gs ++ [(x, y)]) ∧ Below B w w' ∧ ∀ g off c l, FO w g off c l → FO w' g off c l := by
  obtain ⟨i, hi, hz0, hz1, hz2⟩ := info_parts infoG
  have BA : Below w.heap.size w (w.alloc (.cells #[.int .i64 x, .int .i64 y] 36)) := (Below.refl _ _).alloc (Nat.le_refl _) _
  have hA : GO B (w.alloc (.cells #[.int .i64 x, .int .i64 y] 36)) v gs := h.move fun k cur hk => BA.block k (Array.getElem?_eq_some_iff.1 hk).1
  obtain ⟨v', w', hr, q1, q2, q3, q4⟩ := run_append_own_at (P := Try.prog) _ B 33 33 36 i (.agg #[.int .i64 0, .int .i64 0]) 2 16 Try.underlying33 hi hz0 hz1 hz2 rfl (by decide) v gs.length (rowW gs) hA ⟨w.heap.size, 0, none⟩ 1 1 (rowW [(x, y)]) rfl (new_two w x y 36) (rowW_one _) (by unfold maxLen; omega) (by omega) (Nat.le_trans hB BA.size)
  refine ⟨v', w', hr, ?_, (BA.mono hB).trans ((Below.refl _ _).grown q2 (Nat.le_trans hB BA.size) (fun q hq => (World.ownsRow.lt hA q hq).1)), fun g off c l hF => ?_⟩
  · unfold GO
    rw [List.length_append, rowW_app]; exact q1
  · have hF2 := hF.below BA hF.lt
    obtain ⟨cur, e1, r⟩ := hF2
    refine ⟨cur, (q2.block g (by have := hF.lt; have := BA.size; omega) (fun e => ?_)).trans e1, r⟩
    obtain ⟨cur2, e2⟩ := hA.blk g e.symm
    rw [e1] at e2
    injection e2 with e2
    injection e2 with _ e3 _
    exact absurd e3 (by decide)
/-- One more flow behind, where there is room. -/
theorem FO.push {w : World} {g off c : Nat} {l : List Fl} (h : FO w g off c l) (hl : l.length < c) (x y : Int) : FO (w.setCells g (off + l.length * 2) [.int .i64 x, .int .i64 y]) g off c (l ++ [(x, y)]) := by
  obtain ⟨cur, h1, h2, h3, h4⟩ := h
  have k1 := heap_set (v := .int .i64 x) h1 (show off + l.length * 2 < cur.size by omega)
  have k2 := heap_set (v := .int .i64 y) k1 (show off + l.length * 2 + 1 < (cur.setIfInBounds (off + l.length * 2) (.int .i64 x)).size by rw [Array.size_setIfInBounds]; omega)
  refine ⟨_, k2, by simp [h2], by rw [List.length_append]; show l.length + 1 ≤ c; omega, fun i hi => ?_⟩
  have hi' : i < l.length + 1 := by simpa using hi
  simp only [Array.getElem?_setIfInBounds, Array.size_setIfInBounds]
  by_cases q : i = l.length
  · subst q
    have e : (l ++ [(x, y)]).getD l.length (0, 0) = (x, y) := by simp [List.getD_eq_getElem?_getD]
    rw [e]
    exact ⟨by rw [if_neg (by omega), if_pos rfl, if_pos (by omega)], by rw [if_pos rfl, if_pos (by omega)]⟩
  · have hil : i < l.length := by omega
    have e : (l ++ [(x, y)]).getD i (0, 0) = l.getD i (0, 0) := by simp [List.getD_eq_getElem?_getD, List.getElem?_append_left hil]
    rw [e, if_neg (by omega), if_neg (by omega), if_neg (by omega), if_neg (by omega)]
    exact h4 i hil
theorem FO.row {w : World} {g off c : Nat} {l : List Fl} (h : FO w g off c l) : ∀ j u, (rowW l)[j]? = Option.some u → w.cell? ⟨g, off + j, none⟩ = Option.some u := fun j u hj => by
  have hjl := (List.getElem?_eq_some_iff.1 hj).1
  rw [rowW_len] at hjl
  have r := rowW_at l (j / 2) (by omega)
  have q0 := h.c0 (j / 2) (by omega)
  have q1 := h.c1 (j / 2) (by omega)
  rcases Nat.mod_two_eq_zero_or_one j with m | m
  · have e1 : j / 2 * 2 = j := by omega
    rw [e1] at r q0
    rw [q0, ← r.1, hj]
  · have e1 : j / 2 * 2 + 1 = j := by omega
    have e2 : off + j / 2 * 2 + 1 = off + j := by omega
    rw [e1] at r
    rw [e2] at q1
    rw [q1, ← r.2, hj]
theorem setCells_block (g : Nat) : ∀ (vs : List Value) (o : Nat) (w : World) (k : Nat), k ≠ g → (w.setCells g o vs).heap[k]? = w.heap[k]?
  | [], _, _, _, _ => rfl
  | v :: r, o, w, k, h => (setCells_block g r (o + 1) _ k h).trans (Below.heap_setCell _ _ _ _ h)
/-- The rest of a queue with one flow put behind. -/
theorem que_append {B : Nat} {w : World} {g off c : Nat} {f : Fl} {t : List Fl} (h : FO w g off c (f :: t)) (hg : B ≤ g) (hB : B ≤ w.heap.size) (hc : c ≤ maxLen) (x y : Int) (hl : t.length ≤ 1000000) :
    ∃ v' w', (Builtin.append_ #[22, 22] 22 #[.slice (if c = 1 then some ⟨g, off, none⟩ else some ⟨g, off + 2, none⟩) t.length (c - 1), .slice (some ⟨w.heap.size, 0, none⟩) 1 1]).run Try.prog (w.alloc (.cells #[.int .i64 x, .int .i64 y] 31)) = .ok v' w' ∧ Que B w' v' (t ++ [(x, y)]) ∧ Below B w w' ∧ ∀ v gs, GO B w v gs → GO B w' v gs := by
  obtain ⟨i, hi, hz0, hz1, hz2⟩ := info_parts infoW
  have BA : Below w.heap.size w (w.alloc (.cells #[.int .i64 x, .int .i64 y] 31)) := (Below.refl _ _).alloc (Nat.le_refl _) _
  have hF := h.below BA h.lt
  have hcl : t.length + 1 ≤ c := h.len
  have hgr : ∀ {v gs}, GO B w v gs → GO B (w.alloc (.cells #[.int .i64 x, .int .i64 y] 31)) v gs := fun hh => hh.move fun k cur hk => BA.block k (Array.getElem?_eq_some_iff.1 hk).1
  by_cases h1 : t.length + 1 ≤ c - 1
  · have hD : FO (w.alloc (.cells #[.int .i64 x, .int .i64 y] 31)) g (off + 2) (c - 1) t := by have := hF.drop 1 (by omega); simpa using this
    have hr := run_append_room_cells (P := Try.prog) (w.alloc (.cells #[.int .i64 x, .int .i64 y] 31)) 22 22 31 i Try.underlying22 hi g (off + 2) t.length (c - 1) ⟨w.heap.size, 0, none⟩ 1 1 (rowW [(x, y)]) (by rw [hz1]; rfl) (new_two w x y 31) (rowW_one _) h1 (fun j hj => by
        have hj2 : j < 2 := hj
        rw [hz1]; exact hD.here _ (by omega)) (fun j _ => hD.z _)
    rw [hz1] at hr
    refine ⟨_, _, by rw [if_neg (by omega)]; exact hr, ⟨some ⟨g, off + 2, none⟩, c - 1, by rw [List.length_append]; rfl, fun _ => ⟨g, off + 2, rfl, hg, hD.push (by omega) x y, by omega⟩⟩, setCells_below g hg _ _ (BA.mono hB), fun v gs hh => (hgr hh).move fun k cur hk => setCells_block g _ _ _ k (fun e => ?_)⟩
    subst e
    obtain ⟨cur2, e2, _⟩ := hD
    rw [hk] at e2
    injection e2 with e2
    injection e2 with _ e3 _
    exact absurd e3 (by decide)
  · have hc1 : c - 1 = t.length := by omega
    have key : ∀ ad : Addr, (∀ j u, (rowW t)[j]? = some u → (w.alloc (.cells #[.int .i64 x, .int .i64 y] 31)).cell? (ad.add j) = some u) → ∃ v' w', (Builtin.append_ #[22, 22] 22 #[.slice (some ad) t.length (c - 1), .slice (some ⟨w.heap.size, 0, none⟩) 1 1]).run Try.prog (w.alloc (.cells #[.int .i64 x, .int .i64 y] 31)) = .ok v' w' ∧ Que B w' v' (t ++ [(x, y)]) ∧ Below B w w' ∧ ∀ v gs, GO B w v gs → GO B w' v gs := fun ad had => by
      obtain ⟨v', w', hr, q1, q2⟩ := run_append_arg_grows (P := Try.prog) (w.alloc (.cells #[.int .i64 x, .int .i64 y] 31)) 22 22 31 i (.agg #[.int .i64 0, .int .i64 0]) 2 16 Try.underlying22 hi hz0 hz1 hz2 rfl (by decide) ad t.length (c - 1) (rowW t) (rowW_len t) had ⟨w.heap.size, 0, none⟩ 1 1 (rowW [(x, y)]) rfl (new_two w x y 31) (by omega) (by unfold maxLen; omega) (by omega)
      have q1' : w'.ownsRow (w.alloc (.cells #[.int .i64 x, .int .i64 y] 31)).heap.size 31 2 v' (t ++ [(x, y)]).length (rowW (t ++ [(x, y)])) := by rw [List.length_append, rowW_app]; exact q1
      obtain ⟨g', c', rfl, k1, k2, k3⟩ := owns_FO q1' (by simp)
      have hbl : Below w.heap.size (w.alloc (.cells #[.int .i64 x, .int .i64 y] 31)) w' := (Below.refl _ _).grown q2 BA.size (fun q hq => by cases hq)
      exact ⟨_, w', hr, ⟨_, c', rfl, fun _ => ⟨g', 0, rfl, Nat.le_trans (Nat.le_trans hB BA.size) k1, k2, k3⟩⟩, (BA.mono hB).trans (hbl.mono hB), fun v gs hh => (hgr hh).move fun k cur hk => q2.block k (Array.getElem?_eq_some_iff.1 hk).1 (fun e => by cases e)⟩
    by_cases h2 : c = 1
    · rw [if_pos h2]
      have ht : t = [] := List.eq_nil_of_length_eq_zero (by omega)
      exact key ⟨g, off, none⟩ (fun j u hj => by rw [ht] at hj; simp [rowW] at hj)
    · rw [if_neg h2]
      have hD : FO (w.alloc (.cells #[.int .i64 x, .int .i64 y] 31)) g (off + 2) (c - 1) t := by have := hF.drop 1 (by omega); simpa using this
      exact key ⟨g, off + 2, none⟩ (fun j u hj => by rw [addr_add]; exact hD.row j u hj)
end Go.Proofs.Ytnfpbkllpkbdiaa
