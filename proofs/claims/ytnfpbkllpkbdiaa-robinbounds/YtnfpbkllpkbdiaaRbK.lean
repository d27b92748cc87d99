/- A round. -/
import Derived.Test.YtnfpbkllpkbdiaaRbJ
import Derived.Deep.LoopGhost
namespace Go.Proofs.Ytnfpbkllpkbdiaa
open Go.RowKit
set_option linter.unusedVariables false

/-- How much a queue wants. -/
def qsum (l : List Fl) : Nat := (l.map fun f => f.2.toNat).sum
theorem qsum_app (a b : List Fl) : qsum (a ++ b) = qsum a + qsum b := by unfold qsum; rw [List.map_append, List.sum_append]
theorem qsum_cons (f : Fl) (t : List Fl) : qsum (f :: t) = f.2.toNat + qsum t := rfl
/-- The queue behind a grant. -/
def nxt (f : Fl) (t : List Fl) : List Fl := if min f.2 64 < f.2 then t ++ [(f.1, f.2 - min f.2 64)] else t
theorem nxt_less (f : Fl) (t : List Fl) (h : ¬ f.2 ≤ 0) : qsum (nxt f t) < qsum (f :: t) := by
  unfold nxt
  rw [qsum_cons]
  split
  · rw [qsum_app, qsum_cons]
    show qsum t + ((f.2 - min f.2 64).toNat + 0) < _
    omega
  · omega
/-- Grants round by round, while there is credit: credit, the last one, the grants. -/
def loopQ (qu : List Fl) (cr la : Int) (gs : List Fl) : Int × Int × List Fl :=
  match qu with
  | [] => (0, la, gs)
  | f :: t =>
    if h : f.2 ≤ 0 then (0, la, gs)
    else if cr < min f.2 64 then (cr, la, gs)
    else loopQ (nxt f t) (cr - min f.2 64) f.1 (gs ++ [(f.1, min f.2 64)])
termination_by qsum qu
decreasing_by exact nxt_less f t h
theorem loopQ_nil (cr la : Int) (gs : List Fl) : loopQ [] cr la gs = (0, la, gs) := by rw [loopQ]
theorem loopQ_stop {f : Fl} {t : List Fl} {cr la : Int} {gs : List Fl} (h : 0 < f.2) (hc : cr < min f.2 64) : loopQ (f :: t) cr la gs = (cr, la, gs) := by
  rw [loopQ, dif_neg (by omega), if_pos hc]
theorem loopQ_go {f : Fl} {t : List Fl} {cr la : Int} {gs : List Fl} (h : 0 < f.2) (hc : ¬ cr < min f.2 64) : loopQ (f :: t) cr la gs = loopQ (nxt f t) (cr - min f.2 64) f.1 (gs ++ [(f.1, min f.2 64)]) := by
  rw [loopQ, dif_neg (by omega), if_neg hc]
/-- Each wants something, and no more than there are numbers. -/
def Ask (l : List Fl) : Prop := ∀ f ∈ l, 0 < f.2 ∧ f.2 ≤ 9223372036854775807
theorem Ask.nxt {f : Fl} {t : List Fl} (h : Ask (f :: t)) : Ask (nxt f t) := by
  unfold Go.Proofs.Ytnfpbkllpkbdiaa.nxt
  have hf := h f (List.mem_cons_self ..)
  split
  · intro x hx
    rcases List.mem_append.1 hx with q | q
    · exact h x (List.mem_cons_of_mem _ q)
    · have : x = (f.1, f.2 - min f.2 64) := by simpa using q
      subst this
      show 0 < f.2 - min f.2 64 ∧ f.2 - min f.2 64 ≤ _
      omega
  · exact fun x hx => h x (List.mem_cons_of_mem _ hx)
theorem Stab.mem {l s : List Fl} (h : Stab l s) (f : Fl) : f ∈ s ↔ f ∈ l := by
  have k := h.2 f.1
  constructor
  · intro q
    have : f ∈ s.filter (fun x => x.1 == f.1) := List.mem_filter.2 ⟨q, by simp⟩
    rw [k] at this
    exact (List.mem_filter.1 this).1
  · intro q
    have : f ∈ l.filter (fun x => x.1 == f.1) := List.mem_filter.2 ⟨q, by simp⟩
    rw [← k] at this
    exact (List.mem_filter.1 this).1
theorem cpt_mem (s : List Fl) : ∀ k, k ≤ s.length → ∀ f ∈ cpt s k, f ∈ s
  | 0, _, f, h => by cases h
  | k + 1, hk, f, h => by
    rcases List.mem_append.1 h with q | q
    · exact cpt_mem s k (by omega) f q
    · split at q
      · have : f = s.getD k (0, 0) := by simpa using q
        rw [this, List.getD_eq_getElem?_getD, List.getElem?_eq_getElem (by omega)]
        exact List.getElem_mem _
      · cases q
theorem WaitP.ask {la : Int} {fs W : List Fl} (h : WaitP la fs W) (hf : ∀ f ∈ fs, f.2 ≤ 9223372036854775807) : Ask W := by
  obtain ⟨s, h1, _, rfl⟩ := h
  intro f hm
  obtain ⟨q1, q2⟩ := List.mem_filter.1 hm
  refine ⟨?_, hf f ((h1.mem f).1 (cpt_mem s _ (Nat.le_refl _) f q1))⟩
  unfold wants at q2
  simp at q2
  exact q2
/-- Nothing old but block b has turned. -/
structure Ex (b : Nat) (w w' : World) : Prop where
  os : w'.os = w.os
  tape : w'.tape = w.tape
  output : w'.output = w.output
  size : w.heap.size ≤ w'.heap.size
  block : ∀ k, k < w.heap.size → k ≠ b → w'.heap[k]? = w.heap[k]?
theorem Ex.refl (b : Nat) (w : World) : Ex b w w := ⟨rfl, rfl, rfl, Nat.le_refl _, fun _ _ _ => rfl⟩
theorem Ex.trans {b : Nat} {u v w : World} (h : Ex b u v) (k : Ex b v w) : Ex b u w :=
  ⟨k.os.trans h.os, k.tape.trans h.tape, k.output.trans h.output, Nat.le_trans h.size k.size, fun i hi hb => (k.block i (Nat.lt_of_lt_of_le hi h.size) hb).trans (h.block i hi hb)⟩
theorem ex_below {b B : Nat} {u v w : World} (h : Ex b u v) (hB : u.heap.size = B) (k : Below B v w) : Ex b u w :=
  ⟨k.os.trans h.os, k.tape.trans h.tape, k.output.trans h.output, Nat.le_trans h.size k.size, fun i hi hb => (k.block i (by omega)).trans (h.block i hi hb)⟩
theorem Ex.set {b : Nat} {u v : World} (h : Ex b u v) (o : Nat) (x : Value) : Ex b u (v.setCell ⟨b, o, none⟩ x) :=
  ⟨h.os, h.tape, h.output, by simpa [World.setCell] using h.size, fun i hi hb => (Below.heap_setCell _ _ _ _ hb).trans (h.block i hi hb)⟩
theorem FO.but {w : World} {b o g off c : Nat} {l : List Fl} {x : Value} (h : FO w g off c l) (hb : g ≠ b) : FO (w.setCell ⟨b, o, none⟩ x) g off c l := by
  obtain ⟨cur, h1, r⟩ := h
  exact ⟨cur, (Below.heap_setCell _ _ _ _ hb).trans h1, r⟩
theorem GO.but {B : Nat} {w : World} {v : Value} {gs : List Fl} {b o : Nat} {x : Value} (h : GO B w v gs) (hb : b < B) : GO B (w.setCell ⟨b, o, none⟩ x) v gs := by
  obtain ⟨h1, h2⟩ := h
  refine ⟨h1, ?_⟩
  rcases h2 with h2 | ⟨g, c, cur, hv, hB, hg, r⟩
  · exact .inl h2
  · exact .inr ⟨g, c, cur, hv, hB, (Below.heap_setCell _ _ _ _ (show g ≠ b by omega)).trans hg, r⟩
theorem GO.grow {B : Nat} {w w' : World} {v : Value} {gs : List Fl} (h : GO B w v gs) (b : Below w.heap.size w w') : GO B w' v gs := h.move fun k cur hk => b.block k (Array.getElem?_eq_some_iff.1 hk).1
end Go.Proofs.Ytnfpbkllpkbdiaa
