/- A byte put into a row of one's own; a row of given bytes; a number put behind a row. -/
import Derived.Test.YtdibldocfhpnkaaDoorRow
import Derived.Test.YtdibldocfhpnkaaDoorOwnI
namespace Go.Proofs.YtdibldocfhpnkaaDoor
open Go.RowKit
set_option linter.unusedVariables false

theorem own_set {B : Nat} {w : World} {v : Value} {X : List UInt8} (h : Own B w v X) (i : Nat) (hi : i < X.length) (y : UInt8) : ∃ g c, v = .slice (some ⟨g, 0, none⟩) X.length c ∧ B ≤ g ∧ g < w.heap.size ∧ w.cell? ⟨g, i, none⟩ = some (bv X[i]) ∧ w.frozen? ⟨g, i, none⟩ = false ∧ X.length ≤ c ∧ c ≤ maxLen ∧ Src (w.setCell ⟨g, i, none⟩ (bv y)) g v (X.set i y) := by
  have h0 := h
  obtain ⟨h1, ⟨h2, h3⟩ | ⟨g, c, cur, hv, hB, hg, hl, hm, hs, ht⟩⟩ := h
  · omega
  · have hcell : ∀ (j : Nat) (hj : j < X.length), w.cell? ⟨g, j, none⟩ = some (bv X[j]) := fun j hj => by
      have k := (hv ▸ h0 : w.ownsRow B 5 1 (.slice (some ⟨g, 0, none⟩) X.length c) X.length (rowB X)).cellAt j (by omega)
      rw [k]
      unfold rowB
      rw [List.getElem?_map, List.getElem?_eq_getElem hj]; rfl
    have hcur : ∀ (j : Nat) (hj : j < X.length), cur[j]? = some (bv X[j]) := fun j hj => by
      have := hcell j hj
      simpa [World.cell?, hg] using this
    refine ⟨g, c, hv, hB, heap_lt hg, hcell i hi, ring_z hg, hl, hm, ⟨some ⟨g, 0, none⟩, c, by rw [List.length_set]; exact hv, by rw [List.length_set]; exact hl, hm, fun _ => ⟨0, rfl, fun j hj => ?_⟩⟩⟩
    rw [List.length_set] at hj
    rw [Nat.zero_add]
    refine ring_cell (ring_set hg) ?_
    rw [Array.getElem?_setIfInBounds]
    have hsz : i < cur.size := (Array.getElem?_eq_some_iff.1 (hcur i hi)).1
    by_cases hij : i = j
    · subst hij
      rw [if_pos rfl, if_pos hsz]
      simp
    · rw [if_neg hij, hcur j hj, List.getElem_set_ne hij]
theorem own_lit (B : Nat) (w : World) (hB : B ≤ w.heap.size) (x : UInt8) : Own B (w.alloc (.cells #[.int .u8 (x.toNat : Int)] 5)) (.slice (some ⟨w.heap.size, 0, none⟩) 1 1) [x] :=
  ⟨rfl, .inr ⟨w.heap.size, 1, #[.int .u8 (x.toNat : Int)], rfl, hB, new_at _ _, Nat.le_refl _, by decide, rfl, rfl⟩⟩
theorem src_lit (w : World) (x : UInt8) : Src (w.alloc (.cells #[.int .u8 (x.toNat : Int)] 5)) w.heap.size (.slice (some ⟨w.heap.size, 0, none⟩) 1 1) [x] := by
  obtain ⟨k, h, hk⟩ := (own_lit w.heap.size w (Nat.le_refl _) x).src
  have := hk (Nat.zero_lt_one)
  have hs : (w.alloc (.cells #[.int .u8 (x.toNat : Int)] 5)).heap.size = w.heap.size + 1 := by simp
  obtain rfl : k = w.heap.size := by omega
  exact h
theorem ownI_one {B : Nat} {w : World} {v : Value} {l : List Nat} (h : OwnI B w v l) (hB : B ≤ w.heap.size) (p : Nat) (hmax : l.length + 1 ≤ 100000) :
    ∃ v' w', (Builtin.append_ #[44, 44] 44 #[v, .slice (some ⟨w.heap.size, 0, none⟩) 1 1]).run Tryd.prog (w.alloc (.cells #[.int .i64 (p : Int)] 3)) = .ok v' w' ∧ OwnI B w' v' (l ++ [p]) ∧ Below B w w' := by
  obtain ⟨i, hi, hz0, hz1, hz2⟩ := info_parts infoI3
  have BA : Below w.heap.size w (w.alloc (.cells #[.int .i64 (p : Int)] 3)) := (Below.refl _ _).alloc (Nat.le_refl _) _
  have h' := h.keep BA
  have hB' := Nat.le_trans hB BA.size
  have hnew := new_at w (.cells #[.int .i64 (p : Int)] 3)
  obtain ⟨v', w', hr, q1, q2, q3, q4⟩ := run_append_own_at (P := Tryd.prog) _ B 44 44 3 i (.int .i64 0) 1 8 Tryd.underlying44 hi hz0 hz1 hz2 rfl (by decide) v l.length (l.map iv) h' ⟨w.heap.size, 0, none⟩ 1 1 ([p].map iv) (by simp)
      (fun j u hj => by
        rw [addr_add, Nat.zero_add]
        refine ring_cell hnew ?_
        simpa [iv] using hj) (ivs_one _) (by unfold maxLen; omega) (by omega) hB'
  refine ⟨v', w', hr, ?_, (BA.mono hB).trans ((Below.refl _ _).grown q2 hB' (fun q hq => (h'.lt q hq).1))⟩
  unfold OwnI
  rw [List.length_append, List.map_append]; exact q1
end Go.Proofs.YtdibldocfhpnkaaDoor
