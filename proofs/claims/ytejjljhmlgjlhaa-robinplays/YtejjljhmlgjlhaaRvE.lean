/- A round of the document's robin. -/
import Derived.Test.YtejjljhmlgjlhaaRvD
namespace Go.Proofs.Ytejjljhmlgjlhaa
open Go.RowKit
set_option linter.unusedVariables false

/-- In block b lies the document's robin. -/
def IsV (w : World) (b : Nat) (q c l : Int) (any : Bool) : Prop := w.heap[b]? = some (.cells #[.int .i64 q, .int .i64 c, .int .i64 l, .bool any] 27)
theorem IsV.c0 {w : World} {b : Nat} {q c l : Int} {any : Bool} (x : IsV w b q c l any) : w.cell? ⟨b, 0, none⟩ = some (.int .i64 q) := by unfold IsV at x; simp [World.cell?, x]
theorem IsV.c1 {w : World} {b : Nat} {q c l : Int} {any : Bool} (x : IsV w b q c l any) : w.cell? ⟨b, 1, none⟩ = some (.int .i64 c) := by unfold IsV at x; simp [World.cell?, x]
theorem IsV.c2 {w : World} {b : Nat} {q c l : Int} {any : Bool} (x : IsV w b q c l any) : w.cell? ⟨b, 2, none⟩ = some (.int .i64 l) := by unfold IsV at x; simp [World.cell?, x]
theorem IsV.c3 {w : World} {b : Nat} {q c l : Int} {any : Bool} (x : IsV w b q c l any) : w.cell? ⟨b, 3, none⟩ = some (.bool any) := by unfold IsV at x; simp [World.cell?, x]
theorem IsV.z {w : World} {b : Nat} {q c l : Int} {any : Bool} (x : IsV w b q c l any) (o : Nat) : w.frozen? ⟨b, o, none⟩ = false := by unfold IsV at x; simp [World.frozen?, x]
theorem IsV.set1 {w : World} {b : Nat} {q c l : Int} {any : Bool} (x : IsV w b q c l any) (y : Int) : IsV (w.setCell ⟨b, 1, none⟩ (.int .i64 y)) b q y l any := by unfold IsV at *; simp [World.setCell, Array.getElem?_modify, x]
theorem IsV.set2 {w : World} {b : Nat} {q c l : Int} {any : Bool} (x : IsV w b q c l any) (y : Int) : IsV (w.setCell ⟨b, 2, none⟩ (.int .i64 y)) b q c y any := by unfold IsV at *; simp [World.setCell, Array.getElem?_modify, x]
theorem IsV.set3 {w : World} {b : Nat} {q c l : Int} {any : Bool} (x : IsV w b q c l any) (y : Bool) : IsV (w.setCell ⟨b, 3, none⟩ (.bool y)) b q c l y := by unfold IsV at *; simp [World.setCell, Array.getElem?_modify, x]
theorem IsV.lt {w : World} {b : Nat} {q c l : Int} {any : Bool} (x : IsV w b q c l any) : b < w.heap.size := by unfold IsV at x; exact (Array.getElem?_eq_some_iff.1 x).1
theorem IsV.below {B : Nat} {w w' : World} {b : Nat} {q c l : Int} {any : Bool} (x : IsV w b q c l any) (h : Below B w w') (hb : b < B) : IsV w' b q c l any := by
  unfold IsV at *; rw [h.block b hb]; exact x
theorem OwP.blk {T : TypeId} {B : Nat} {w : World} {v : Value} {l : List Fl} (h : OwP T B w v l) : ∀ k, v.ownBlock = some k → B ≤ k ∧ ∃ cur, w.heap[k]? = some (.cells cur T) := by
  obtain ⟨_, ⟨h2, h3⟩ | ⟨g, c, cur, hv, hB, hg, _⟩⟩ := h
  · subst h2; intro k hk; cases hk
  · subst hv; intro k hk
    obtain rfl : g = k := by simpa [Value.ownBlock] using hk
    exact ⟨hB, cur, hg⟩
theorem OwP.move {T : TypeId} {B : Nat} {w w' : World} {v : Value} {l : List Fl} (h : OwP T B w v l) (hk : ∀ (k : Nat) (cur : Array Value), B ≤ k → v.ownBlock = some k → w.heap[k]? = some (Obj.cells cur T) → w'.heap[k]? = w.heap[k]?) : OwP T B w' v l := by
  obtain ⟨h1, h2⟩ := h
  refine ⟨h1, ?_⟩
  rcases h2 with h2 | ⟨g, c, cur, hv, hB, hg, r⟩
  · exact .inl h2
  · exact .inr ⟨g, c, cur, hv, hB, (hk g cur hB (by rw [hv]; rfl) hg).trans hg, r⟩
/-- Whatever lies elsewhere stays while a cell of block b turns. -/
theorem owp_set {T : TypeId} {B : Nat} {w : World} {v : Value} {l : List Fl} {b o : Nat} {x : Value} (h : OwP T B w v l) (hb : b < B) : OwP T B (w.setCell ⟨b, o, none⟩ x) v l :=
  h.move fun k cur hk _ _ => Below.heap_setCell _ _ _ _ (show k ≠ b by omega)
end Go.Proofs.Ytejjljhmlgjlhaa
