/- What is kept while a loop over an iterator turns its own blocks. -/
import Derived.Test.YtdibldocfhpnkaaDoorRow
import Derived.RangeFuncNested
namespace Go.Proofs.YtdibldocfhpnkaaDoor
open Go.RowKit
set_option linter.unusedVariables false

structure KpC (N : Nat) (W V : World) : Prop where
  size : W.heap.size ≤ V.heap.size
  same : ∀ k o, N ≤ k → W.heap[k]? = some o → o.isCells = true → V.heap[k]? = some o
theorem KpC.alloc (N : Nat) (W : World) (o : Obj) : KpC N W (W.alloc o) := ⟨by simp, fun k o' _ h _ => (Below.heap_alloc W o k (Array.getElem?_eq_some_iff.1 h).1).trans h⟩
theorem KpC.set {N : Nat} (W : World) (a : Addr) (v : Value) (h : a.block < N) : KpC N W (W.setCell a v) := ⟨(KeepsOthers.setCell W a v).size, fun k o hk h' _ => (Below.heap_setCell W a v k (by omega)).trans h'⟩
theorem KpC.drew (N : Nat) (W : World) : KpC N W W.drew := ⟨Nat.le_refl _, fun k o _ h _ => h⟩
theorem KpC.put {N : Nat} (W : World) (k : Nat) (o o' : Obj) (h : W.heap[k]? = some o) (ho : o.isCells = false) : KpC N W (W.putObj k o') := ⟨by simp, fun j p _ hj hp => by
  refine (World.putObj_heap_other ?_).trans hj
  intro e; subst e
  rw [h] at hj; cases hj; rw [ho] at hp; cases hp⟩
theorem KpC.below {N : Nat} {W V : World} (h : Below W.heap.size W V) : KpC N W V := ⟨h.size, fun k o _ hk _ => (h.block k (Array.getElem?_eq_some_iff.1 hk).1).trans hk⟩
theorem KpC.trans {N : Nat} {A B C : World} (h : KpC N A B) (k : KpC N B C) : KpC N A C := ⟨Nat.le_trans h.size k.size, fun i o hi ho hc => k.same i o hi (h.same i o hi ho hc) hc⟩
end Go.Proofs.YtdibldocfhpnkaaDoor
