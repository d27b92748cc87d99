/- A ring in memory: its block, its chain of segments, and the bytes that are in it; what stays where something else turns. -/
import Derived.Test.YtenajbefknlalaaMtD
import Derived.Test.YtenajbefknlalaaByt
import Derived.Laws.CopyOwn
namespace Go.Proofs.Ytenajbefknlalaa
open Go.RowKit
set_option linter.unusedVariables false

theorem Kp.ofBut {T : Nat → Prop} {b : Nat} {u v : World} (h : But b u v) (hb : T b) : Kp T u v :=
  ⟨h.os, h.tape, h.output, Nat.le_of_eq h.size.symm, fun i hi hn => h.block i (fun e => hn (e ▸ hb))⟩
theorem Kp.set {T : Nat → Prop} (w : World) (b o : Nat) (v : Value) (hb : T b) : Kp T w (w.setCell ⟨b, o, none⟩ v) := Kp.ofBut (But.set b o w v) hb
theorem Kp.setRow {T : Nat → Prop} (w : World) (g : Nat) (cs : Array Value) (hb : T g) : Kp T w (w.setRow g cs) :=
  ⟨rfl, rfl, rfl, by simp [World.setRow], fun k hk hn => setRow_other w g k cs (fun e => hn (e ▸ hb))⟩
theorem Kp.isM {T : Nat → Prop} {c : Nat} {w w' : World} (h : Kp T w w') (hc : ¬ T c) {m x p : Int} (k : IsM w c m x p) : IsM w' c m x p := by
  have hl := k.lt
  unfold IsM at *; rw [h.block c hl hc]; exact k
def pt (o : Option Nat) : Value := .pointer (o.map fun b => ⟨b, 0, none⟩)
def segV (bs : List UInt8) (nx : Option Nat) : List Value := bs.map bv ++ [pt nx]
/-- In block s lies a segment: its 64 bytes, and the next one. -/
def IsS (w : World) (s : Nat) (bs : List UInt8) (nx : Option Nat) : Prop := bs.length = 64 ∧ w.heap[s]? = some (.cells (segV bs nx).toArray 70 (0, 0))
abbrev Seg := Nat × List UInt8
def hd (r : List Seg) (nx : Option Nat) : Option Nat := match r with | [] => nx | x :: _ => some x.1
def Chain (w : World) : List Seg → Option Nat → Prop
  | [], _ => True
  | x :: r, nx => IsS w x.1 x.2 (hd r nx) ∧ Chain w r nx
def flat (r : List Seg) : List UInt8 := (r.map (·.2)).flatten
def lastB (r : List Seg) : Option Nat := r.getLast?.map (·.1)
theorem hd_append (a b : List Seg) (nx : Option Nat) : hd (a ++ b) nx = hd a (hd b nx) := by cases a <;> rfl
theorem chain_append {w : World} (a b : List Seg) (nx : Option Nat) : Chain w (a ++ b) nx ↔ Chain w a (hd b nx) ∧ Chain w b nx := by
  induction a with
  | nil => simp [Chain]
  | cons x a ih => rw [List.cons_append, Chain, Chain, ih, hd_append, and_assoc]
theorem chain_frame {w w' : World} (r : List Seg) (nx : Option Nat) (h : ∀ x ∈ r, w'.heap[x.1]? = w.heap[x.1]?) (c : Chain w r nx) : Chain w' r nx := by
  induction r with
  | nil => trivial
  | cons x r ih =>
    obtain ⟨⟨c1, c2⟩, c3⟩ := c
    exact ⟨⟨c1, (h x (.head _)).trans c2⟩, ih (fun y hy => h y (.tail _ hy)) c3⟩
theorem chain_lt {w : World} (r : List Seg) (nx : Option Nat) (c : Chain w r nx) : ∀ x ∈ r, x.1 < w.heap.size := by
  induction r with
  | nil => intro x hx; cases hx
  | cons y r ih =>
    intro x hx
    cases hx with
    | head => exact heap_lt c.1.2
    | tail _ hx => exact ih c.2 x hx
theorem flat_cons (x : Seg) (r : List Seg) : flat (x :: r) = x.2 ++ flat r := rfl
theorem flat_append (a b : List Seg) : flat (a ++ b) = flat a ++ flat b := by unfold flat; rw [List.map_append, List.flatten_append]
theorem flat_one (x : Seg) : flat [x] = x.2 := by simp [flat]
theorem flat_length {w : World} (r : List Seg) (nx : Option Nat) (c : Chain w r nx) : (flat r).length = 64 * r.length := by
  induction r with
  | nil => rfl
  | cons x r ih => rw [flat_cons, List.length_append, c.1.1, ih c.2, List.length_cons]; omega
theorem lastB_snoc (a : List Seg) (x : Seg) : lastB (a ++ [x]) = some x.1 := by simp [lastB]
theorem lastB_nil : lastB [] = none := rfl

/-- In block r lies a ring over the meter in block mb: its segments hold pad, l and junk, and l is what waits. -/
structure RgX (w : World) (r mb : Nat) (segs : List Seg) (pad l junk : List UInt8) : Prop where
  blk : w.heap[r]? = some (.cells #[.pointer (some ⟨mb, 0, none⟩), pt (hd segs none), pt (lastB segs), .int .i64 pad.length, .int .i64 l.length] 56)
  chain : Chain w segs none
  nd : (segs.map (·.1)).Nodup
  nr : r ∉ segs.map (·.1)
  fl : flat segs = pad ++ l ++ junk
def Shut (segs : List Seg) (pad l junk : List UInt8) : Prop := (segs = [] ∧ pad = [] ∧ l = [] ∧ junk = []) ∨ (0 < l.length ∧ pad.length < 64 ∧ junk.length < 64)
/-- What blocks a ring may turn. -/
structure Foot (w : World) (r mb : Nat) (S : Nat → Prop) (segs : List Seg) : Prop where
  r : S r
  segs : ∀ x ∈ segs, S x.1
  lt : ∀ k, S k → k < w.heap.size
  mb : ¬ S mb
/-- The ring in block r has the bytes l. -/
def Rg (w : World) (r mb : Nat) (S : Nat → Prop) (l : List UInt8) : Prop := ∃ segs pad junk, RgX w r mb segs pad l junk ∧ Shut segs pad l junk ∧ Foot w r mb S segs

theorem IsS.next {w : World} {s : Nat} {bs : List UInt8} {nx : Option Nat} (h : IsS w s bs nx) : w.cell? ⟨s, 64, none⟩ = some (pt nx) := by
  refine ring_cell h.2 ?_
  rw [List.getElem?_toArray, segV, List.getElem?_append_right (by rw [List.length_map, h.1]; exact Nat.le_refl _), List.length_map, h.1]
  rfl
theorem IsS.byte {w : World} {s : Nat} {bs : List UInt8} {nx : Option Nat} (h : IsS w s bs nx) (j : Nat) (hj : j < bs.length) : w.cell? ⟨s, j, none⟩ = some (bv bs[j]) := by
  refine ring_cell h.2 ?_
  rw [List.getElem?_toArray, segV, List.getElem?_append_left (by rw [List.length_map]; exact hj), List.getElem?_map, List.getElem?_eq_getElem hj]
  rfl
theorem RgX.frame {w w' : World} {r mb : Nat} {segs : List Seg} {pad l junk : List UInt8} (h : RgX w r mb segs pad l junk) (hr : w'.heap[r]? = w.heap[r]?) (hs : ∀ x ∈ segs, w'.heap[x.1]? = w.heap[x.1]?) : RgX w' r mb segs pad l junk :=
  ⟨hr.trans h.blk, chain_frame _ _ hs h.chain, h.nd, h.nr, h.fl⟩
theorem Rg.keep {w w' : World} {r mb : Nat} {S T : Nat → Prop} {l : List UInt8} (h : Rg w r mb S l) (k : Kp T w w') (hd : ∀ i, S i → ¬ T i) : Rg w' r mb S l := by
  obtain ⟨segs, pad, junk, h1, h2, h3⟩ := h
  refine ⟨segs, pad, junk, h1.frame (k.block _ (h3.lt _ h3.r) (hd _ h3.r)) (fun x hx => k.block _ (h3.lt _ (h3.segs x hx)) (hd _ (h3.segs x hx))), h2, h3.r, h3.segs, fun i hi => Nat.lt_of_lt_of_le (h3.lt i hi) k.size, h3.mb⟩
theorem Rg.lt {w : World} {r mb : Nat} {S : Nat → Prop} {l : List UInt8} (h : Rg w r mb S l) : ∀ i, S i → i < w.heap.size := by
  obtain ⟨segs, pad, junk, h1, h2, h3⟩ := h; exact h3.lt
theorem Rg.nomb {w : World} {r mb : Nat} {S : Nat → Prop} {l : List UInt8} (h : Rg w r mb S l) : ¬ S mb := by
  obtain ⟨segs, pad, junk, h1, h2, h3⟩ := h; exact h3.mb
end Go.Proofs.Ytenajbefknlalaa
