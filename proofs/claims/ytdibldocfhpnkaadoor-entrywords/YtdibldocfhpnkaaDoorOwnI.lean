/- A row of numbers that grows, in memory of its own. -/
import Derived.Test.YtdibldocfhpnkaaDoorRow
namespace Go.Proofs.YtdibldocfhpnkaaDoor
open Go.RowKit
set_option linter.unusedVariables false

def iv (n : Nat) : Value := .int .i64 (n : Int)
theorem ivs_one (l : List Nat) : ∀ v ∈ l.map iv, v.oneCell' = true := by
  intro v hv
  obtain ⟨x, _, rfl⟩ := List.mem_map.1 hv
  rfl
theorem infoI3 : (Tryd.prog.info? 3).map (fun i => (i.zero, i.size, i.bytes)) = some (some (.int .i64 0), 1, 8) := by kernel_rfl
def OwnI (B : Nat) (w : World) (v : Value) (l : List Nat) : Prop := w.ownsRow B 3 1 v l.length (l.map iv)
theorem OwnI.keep {B : Nat} {w w' : World} {v : Value} {X : List Nat} (h : OwnI B w v X) (b : Below w.heap.size w w') : OwnI B w' v X := by
  obtain ⟨h1, h2⟩ := h
  refine ⟨h1, ?_⟩
  rcases h2 with h2 | ⟨g, cap, cur, hv, hg, hh, r⟩
  · exact .inl h2
  · exact .inr ⟨g, cap, cur, hv, hg, (b.block g (Array.getElem?_eq_some_iff.1 hh).1).trans hh, r⟩
theorem OwnI.empty (B : Nat) (w : World) (hB : B ≤ w.heap.size) : OwnI B (w.alloc (.cells #[] 3)) (.slice (some ⟨w.heap.size, 0, none⟩) 0 0) [] :=
  ⟨rfl, .inr ⟨w.heap.size, 0, #[], rfl, hB, new_at _ _, Nat.le_refl _, by decide, rfl, rfl⟩⟩
theorem OwnI.at {B : Nat} {w : World} {v : Value} {l : List Nat} (h : OwnI B w v l) (hp : 0 < l.length) : ∃ g c, v = .slice (some ⟨g, 0, none⟩) l.length c ∧ ∀ (j : Nat) (hj : j < l.length), w.cell? ⟨g, j, none⟩ = some (iv l[j]) := by
  have h0 := h
  obtain ⟨h1, ⟨h2, h3⟩ | ⟨g, c, cur, hv, hB, hg, hl, hm, hs, ht⟩⟩ := h
  · omega
  · refine ⟨g, c, hv, fun j hj => ?_⟩
    have k := (hv ▸ h0 : w.ownsRow B 3 1 (.slice (some ⟨g, 0, none⟩) l.length c) l.length (l.map iv)).cellAt j (by omega)
    rw [k, List.getElem?_map, List.getElem?_eq_getElem hj]; rfl
theorem ownI_two {B : Nat} {w : World} {v : Value} {l : List Nat} (h : OwnI B w v l) (hB : B ≤ w.heap.size) (p q : Nat) (hmax : l.length + 2 ≤ 100000) :
    ∃ v' w', (Builtin.append_ #[44, 44] 44 #[v, .slice (some ⟨w.heap.size, 0, none⟩) 2 2]).run Tryd.prog (w.alloc (.cells #[.int .i64 (p : Int), .int .i64 (q : Int)] 3)) = .ok v' w' ∧ OwnI B w' v' (l ++ [p, q]) ∧ Below B w w' := by
  obtain ⟨i, hi, hz0, hz1, hz2⟩ := info_parts infoI3
  have BA : Below w.heap.size w (w.alloc (.cells #[.int .i64 (p : Int), .int .i64 (q : Int)] 3)) := (Below.refl _ _).alloc (Nat.le_refl _) _
  have h' := h.keep BA
  have hB' := Nat.le_trans hB BA.size
  have hnew := new_at w (.cells #[.int .i64 (p : Int), .int .i64 (q : Int)] 3)
  obtain ⟨v', w', hr, q1, q2, q3, q4⟩ := run_append_own_at (P := Tryd.prog) _ B 44 44 3 i (.int .i64 0) 1 8 Tryd.underlying44 hi hz0 hz1 hz2 rfl (by decide) v l.length (l.map iv) h' ⟨w.heap.size, 0, none⟩ 2 2 ([p, q].map iv) (by simp)
      (fun j u hj => by
        rw [addr_add, Nat.zero_add]
        refine ring_cell hnew ?_
        simpa [iv] using hj) (ivs_one _) (by unfold maxLen; omega) (by omega) hB'
  refine ⟨v', w', hr, ?_, (BA.mono hB).trans ((Below.refl _ _).grown q2 hB' (fun q hq => (h'.lt q hq).1))⟩
  unfold OwnI
  rw [List.length_append, List.map_append]; exact q1
end Go.Proofs.YtdibldocfhpnkaaDoor
