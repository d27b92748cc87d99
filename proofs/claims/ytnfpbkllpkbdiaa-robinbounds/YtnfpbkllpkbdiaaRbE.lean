/- clear of a row's end; what is left where neighbours of one connection are left out (plain). -/
import Derived.Test.YtnfpbkllpkbdiaaRbD
import Derived.Laws.IdiomCopy
namespace Go.Proofs.Ytnfpbkllpkbdiaa
open Go.RowKit
set_option linter.unusedVariables false

/-- The cells of a row's end set to nought. -/
theorem run_clear_flows (w : World) (ty : TypeId) (g o n c : Nat) (hn : 0 < n) (hc : ∀ j, j < n * 2 → (w.cell? ⟨g, o + j, none⟩).isSome = true) (hf : ∀ j, j < n * 2 → w.frozen? ⟨g, o + j, none⟩ = false) :
    ∃ zs : List Value, zs.length = n * 2 ∧ (Builtin.clear_ #[22] ty #[.slice (some ⟨g, o, none⟩) n c]).run Try.prog w = .ok (.tuple #[]) (w.setCells g o zs) := by
  have e : (Builtin.zeroCells (Value.agg #[.int .i64 0, .int .i64 0]).cells n).toList.length = n * 2 := by
    simp [Builtin.zeroCells, Value.cells]
  refine ⟨(Builtin.zeroCells (Value.agg #[.int .i64 0, .int .i64 0]).cells n).toList, e, ?_⟩
  have hst := run_storeCells_cells (P := Try.prog) g o (Builtin.zeroCells (Value.agg #[.int .i64 0, .int .i64 0]).cells n).toList 0 w (by rw [e]; simpa using hc) (by rw [e]; simpa using hf) (by
    intro v hv
    simp [Builtin.zeroCells, Value.cells] at hv
    obtain ⟨i, hi, rfl⟩ := hv
    rcases Nat.mod_two_eq_zero_or_one i with m | m <;> simp [m, Value.oneCell'])
  simp only [Nat.add_zero] at hst
  obtain ⟨m, rfl⟩ : ∃ m, n = m + 1 := ⟨n - 1, by omega⟩
  simp [Builtin.clear_, run_underlying Try.underlying22, hst]
theorem setCells_heap (g : Nat) : ∀ (vs : List Value) (o : Nat) (w : World) (cur : Array Value), w.heap[g]? = some (.cells cur 31) → o + vs.length ≤ cur.size → ∃ cur' : Array Value, (w.setCells g o vs).heap[g]? = some (.cells cur' 31) ∧ cur'.size = cur.size ∧ ∀ j, j < o → cur'[j]? = cur[j]?
  | [], o, w, cur, h, _ => ⟨cur, h, rfl, fun _ _ => rfl⟩
  | v :: r, o, w, cur, h, hs => by
    have hs' : o + (r.length + 1) ≤ cur.size := hs
    have k := heap_set (v := v) h (show o < cur.size by omega)
    obtain ⟨cur', h1, h2, h3⟩ := setCells_heap g r (o + 1) _ _ k (by rw [Array.size_setIfInBounds]; omega)
    refine ⟨cur', h1, by rw [h2, Array.size_setIfInBounds], fun j hj => ?_⟩
    rw [h3 j (by omega), Array.getElem?_setIfInBounds, if_neg (by omega)]
theorem setCells_below {B : Nat} (g : Nat) (hg : B ≤ g) : ∀ (vs : List Value) (o : Nat) {w u : World}, Below B u w → Below B u (w.setCells g o vs)
  | [], o, w, u, h => h
  | v :: r, o, w, u, h => setCells_below g hg r (o + 1) (h.setCell (p := ⟨g, o, none⟩) hg v)
/-- A row whose end is cleared. -/
theorem FO.clear {w : World} {g off c : Nat} {l : List Fl} (h : FO w g off c l) (k : Nat) (hk : k ≤ l.length) (zs : List Value) (hz : zs.length = (l.length - k) * 2) : FO (w.setCells g (off + k * 2) zs) g off c (l.take k) := by
  obtain ⟨cur, h1, h2, h3, h4⟩ := h
  obtain ⟨cur', e1, e2, e3⟩ := setCells_heap g zs (off + k * 2) w cur h1 (by omega)
  refine ⟨cur', e1, by omega, Nat.le_trans (List.length_take_le' _ _) h3, fun j hj => ?_⟩
  have hj2 : j < k ∧ j < l.length := by rw [List.length_take] at hj; omega
  have e : (l.take k).getD j (0, 0) = l.getD j (0, 0) := by simp [List.getD_eq_getElem?_getD, hj2.1]
  rw [e, e3 _ (by omega), e3 _ (by omega)]
  exact h4 j hj2.2
theorem FO.here {w : World} {g off c : Nat} {l : List Fl} (h : FO w g off c l) (o : Nat) (ho : o < off + c * 2) : (w.cell? ⟨g, o, none⟩).isSome = true := by
  obtain ⟨cur, h1, h2, h3, h4⟩ := h
  have : o < cur.size := by omega
  simp [World.cell?, h1, this]
/-- Of the first k: the first one, and each that isn't of the connection of the one ahead of it. -/
def cpt (s : List Fl) : Nat → List Fl
  | 0 => []
  | k + 1 => cpt s k ++ if k = 0 ∨ (s.getD k (0, 0)).1 ≠ (s.getD (k - 1) (0, 0)).1 then [s.getD k (0, 0)] else []
theorem cpt_len (s : List Fl) : ∀ k, (cpt s k).length ≤ k
  | 0 => Nat.le_refl _
  | k + 1 => by
    have := cpt_len s k
    unfold cpt
    rw [List.length_append]
    split <;> simp <;> omega
theorem cpt_ne {s : List Fl} {k : Nat} (h : (s.getD (k + 1) (0, 0)).1 ≠ (s.getD k (0, 0)).1) : cpt s (k + 2) = cpt s (k + 1) ++ [s.getD (k + 1) (0, 0)] := by
  show cpt s (k + 1) ++ _ = _
  rw [if_pos (.inr (by simpa using h))]
theorem cpt_eq {s : List Fl} {k : Nat} (h : (s.getD (k + 1) (0, 0)).1 = (s.getD k (0, 0)).1) : cpt s (k + 2) = cpt s (k + 1) := by
  show cpt s (k + 1) ++ _ = _
  rw [if_neg (fun q => q.elim (fun e => by omega) (fun e => e h)), List.append_nil]
theorem take_snoc (s : List Fl) (k : Nat) (h : k < s.length) : s.take (k + 1) = s.take k ++ [s.getD k (0, 0)] := by
  rw [List.take_add_one]
  simp [h]
/-- What lies in memory while later ones are moved up: the first kk are those that are left of the first m, from m - 1 on all is as it was. -/
def MvU (s M : List Fl) (m : Nat) (O : List Fl) : Prop := M.length = s.length ∧ M.take O.length = O ∧ O.length < m ∧ ∀ x, m ≤ x + 1 → M.getD x (0, 0) = s.getD x (0, 0)
theorem MvU.skip {s M O : List Fl} {m : Nat} (h : MvU s M m O) : MvU s M (m + 1) O := ⟨h.1, h.2.1, by have := h.2.2.1; omega, fun x hx => h.2.2.2 x (by omega)⟩
theorem getD_set (l : List Fl) (i j : Nat) (x : Fl) (hi : i < l.length) : (l.set i x).getD j (0, 0) = if i = j then x else l.getD j (0, 0) := by
  simp only [List.getD_eq_getElem?_getD, List.getElem?_set]
  by_cases q : i = j
  · subst q; simp [hi]
  · simp [q]
theorem MvU.move {s M O : List Fl} {m : Nat} (h : MvU s M m O) (hm : m < s.length) : MvU s (M.set O.length (s.getD m (0, 0))) (m + 1) (O ++ [s.getD m (0, 0)]) := by
  obtain ⟨h1, h2, h3, h4⟩ := h
  refine ⟨by rw [List.length_set]; exact h1, ?_, by rw [List.length_append]; show O.length + 1 < m + 1; omega, fun x hx => ?_⟩
  · rw [List.length_append]
    show (M.set O.length _).take (O.length + 1) = _
    rw [take_snoc _ _ (by rw [List.length_set]; omega), getD_set _ _ _ _ (by omega), if_pos rfl, List.take_set_of_le (Nat.le_refl _), h2]
  · rw [getD_set _ _ _ _ (by omega), if_neg (by omega)]
    exact h4 x (by omega)
theorem wpList_clear_run {P : Program} {w : World} {ops : Array Oper} {rest : List Oper} {o : Oper} {a : Act} {Q : Exit → Act → World → Prop} (hgd : o.guard = none) (s : Operand) (t : TypeId)
    (ho : o.op = .call { callee := .builtin .clear, args := #[s], argTypes := #[t] }) (vs v' : Value) (w' : World) (hs : a.eval s = vs) (hr : (Builtin.clear_ #[t] o.type #[vs]).run P w = .ok v' w')
    (h : wpList P ops Q rest (a.put o.dst v') w') : wpList P ops Q (o :: rest) a w := by
  refine wpList_plain hgd fun K hK => ?_
  unfold Oper.wp execOp
  simp only [ho, resolve, invoke, builtin, Sem.run_bind, Sem.run_pure, Result.andThen_ok, List.map_toArray, List.map_cons, List.map_nil, hs, hr]
  exact hK _ _ h
end Go.Proofs.Ytnfpbkllpkbdiaa
