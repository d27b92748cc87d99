/- Flows in a row of one's own. -/
import Derived.Test.YtnfpbkllpkbdiaaRbO
namespace Go.Proofs.Ytnfpbkllpkbdiaa
open Go.RowKit
set_option linter.unusedVariables false

/-- Flows in a row of one's own. -/
def OW (B : Nat) (w : World) (v : Value) (l : List Fl) : Prop := w.ownsRow B 31 2 v l.length (rowW l)
theorem OW.empty (B : Nat) (w : World) (hB : B ≤ w.heap.size) : OW B (w.alloc (.cells #[] 31)) (.slice (some ⟨w.heap.size, 0, none⟩) 0 0) [] :=
  ⟨rfl, .inr ⟨w.heap.size, 0, #[], rfl, hB, tblk_new _ _, Nat.le_refl _, by decide, rfl, rfl⟩⟩
theorem OW.move {B : Nat} {w w' : World} {v : Value} {l : List Fl} (h : OW B w v l) (hk : ∀ k, k < w.heap.size → B ≤ k → w'.heap[k]? = w.heap[k]?) : OW B w' v l := by
  obtain ⟨h1, h2⟩ := h
  refine ⟨h1, ?_⟩
  rcases h2 with h2 | ⟨g, c, cur, hv, hB, hg, r⟩
  · exact .inl h2
  · exact .inr ⟨g, c, cur, hv, hB, (hk g (Array.getElem?_eq_some_iff.1 hg).1 hB).trans hg, r⟩
theorem OW.grow {B : Nat} {w w' : World} {v : Value} {l : List Fl} (h : OW B w v l) (b : Below w.heap.size w w') : OW B w' v l := h.move fun k hk _ => b.block k hk
theorem OW.fls {B : Nat} {w : World} {v : Value} {l : List Fl} (h : OW B w v l) : ∃ a c, v = .slice a l.length c ∧ Fls w a c l := by
  have h0 := h
  obtain ⟨h1, ⟨h2, h3⟩ | ⟨g, c, cur, hv, hB, hg, hlc, hm, hs, ht⟩⟩ := h
  · exact ⟨none, 0, by rw [h2, h3], fun _ => rfl, by omega, Nat.zero_le _, fun q => by omega⟩
  · refine ⟨_, c, hv, (fun e => by cases e), hlc, hm, fun hl => ?_⟩
    obtain ⟨g', c', e, _, hF, _⟩ := owns_FO h0 hl
    rw [hv] at e
    injection e with e1 e2 e3
    injection e1 with e1
    injection e1 with e4 e5 e6
    subst e4 e3
    exact ⟨g, 0, rfl, hF.lt, fun j hj => ⟨hF.c0 j hj, hF.c1 j hj⟩⟩
theorem ow_append {B : Nat} {w : World} {v : Value} {l : List Fl} (h : OW B w v l) (hB : B ≤ w.heap.size) (x y : Int) (hl : l.length ≤ 2199023255552) :
    ∃ v' w', (Builtin.append_ #[22, 22] 22 #[v, .slice (some ⟨w.heap.size, 0, none⟩) 1 1]).run Try.prog (w.alloc (.cells #[.int .i64 x, .int .i64 y] 31)) = .ok v' w' ∧ OW B w' v' (l ++ [(x, y)]) ∧ Below B w w' := by
  obtain ⟨i, hi, hz0, hz1, hz2⟩ := info_parts infoW
  have BA : Below w.heap.size w (w.alloc (.cells #[.int .i64 x, .int .i64 y] 31)) := (Below.refl _ _).alloc (Nat.le_refl _) _
  have hA := h.grow BA
  obtain ⟨v', w', hr, q1, q2, q3, q4⟩ := run_append_own_at (P := Try.prog) _ B 22 22 31 i (.agg #[.int .i64 0, .int .i64 0]) 2 16 Try.underlying22 hi hz0 hz1 hz2 rfl (by decide) v l.length (rowW l) hA ⟨w.heap.size, 0, none⟩ 1 1 (rowW [(x, y)]) rfl (new_two w x y 31) (rowW_one _) (by unfold maxLen; omega) (by omega) (Nat.le_trans hB BA.size)
  refine ⟨v', w', hr, ?_, (BA.mono hB).trans ((Below.refl _ _).grown q2 (Nat.le_trans hB BA.size) (fun q hq => (World.ownsRow.lt hA q hq).1))⟩
  unfold OW
  rw [List.length_append, rowW_app]; exact q1
end Go.Proofs.Ytnfpbkllpkbdiaa
