/- Pool: Take's states. -/
import Derived.Test.YtlaigjapnmgjeaaPoH
namespace Go.Proofs.Ytlaigjapnmgjeaa
open Go.RowKit Go.Shelf
set_option linter.unusedVariables false

theorem not_cells {W : World} {k j : Nat} {o : Obj} {cur : Array Value} {t : TypeId} {z : Nat × Nat} (hk : W.heap[k]? = some o) (ho : o.isCells = false) (hj : W.heap[j]? = some (.cells cur t z)) : j ≠ k := fun e => by
  rw [e, hk] at hj
  cases hj
  cases ho
theorem put_same {W : World} {k j : Nat} {o o' : Obj} {cur : Array Value} {t : TypeId} {z : Nat × Nat} (hk : W.heap[k]? = some o) (ho : o.isCells = false) (hj : W.heap[j]? = some (.cells cur t z)) : (W.putObj k o').heap[j]? = some (.cells cur t z) := (World.putObj_heap_other (not_cells hk ho hj)).trans hj
theorem PL.putO {W : World} {pb mk n N : Nat} {most last : Int} {q : HF} {rs : List Int} {v : Value} (x : PL W pb mk n N most last q rs v) {k : Nat} {o : Obj} (o' : Obj) (hk : W.heap[k]? = some o) (ho : o.isCells = false) (hne : mk ≠ k) : PL (W.putObj k o') pb mk n N most last q rs v :=
  ⟨put_same hk ho x.bk, x.hm.move (World.putObj_heap_other hne), x.ro.move fun g hg => by
    obtain ⟨cur, hc⟩ := x.ro.blk g hg
    exact World.putObj_heap_other (not_cells hk ho hc), x.qs⟩
theorem PX.putO {pb mk : Nat} {v v' : Value} {w W : World} (h : PX pb mk v v' w W) (k : Nat) (o' : Obj) (hk : w.heap.size ≤ k) : PX pb mk v v' w (W.putObj k o') :=
  ⟨h.os, h.tape, h.output, by rw [World.putObj_size]; exact h.size, fun j hj a b c => (World.putObj_heap_other (by omega)).trans (h.block j hj a b c), h.own⟩
def neA (q : HF) (aim : KS) (x : Int) : Prop := (ByteArray.toList (lookH (q x)).1 == ByteArray.toList aim) = false
def lastR (pre : List Int) : Int := pre.getLast?.getD 0
theorem lastR_snoc (pre : List Int) (x : Int) : lastR (pre ++ [x]) = x := by unfold lastR; simp
/-- While the idle ones are gone through. -/
structure TI (w : World) (pb mk m N : Nat) (most last : Int) (q : HF) (rs : List Int) (v : Value) (aim : KS) (pre : List Int) (W : World) : Prop where
  pl : PL W pb mk m N most last q rs v
  k0 : W.heap[w.heap.size]? = some (.cells #[.pointer (some ⟨pb, 0, none⟩)] 23)
  k1 : W.heap[w.heap.size + 1]? = some (.cells #[.string aim] 9)
  k2 : W.heap[w.heap.size + 2]? = some (.cells #[.int .i64 0, .int .i64 0, .bool false] 39)
  k3 : W.heap[w.heap.size + 3]? = some (.cells #[.int .i64 0] 40)
  k4 : W.heap[w.heap.size + 4]? = some (.cells #[.int .i64 (lastR pre)] 3)
  k5 : W.heap[w.heap.size + 5]? = some (.cells #[.pointer (some ⟨pb, 0, none⟩)] 23)
  no : ∀ y ∈ pre, neA q aim y
  be : Below w.heap.size w W
/-- One was found. -/
def TX (w : World) (pb mk m N : Nat) (most last : Int) (q : HF) (rs : List Int) (v : Value) (aim : KS) (pre : List Int) (W : World) : Prop :=
  ∃ pre0 x v', pre = pre0 ++ [x] ∧ (∀ y ∈ pre0, neA q aim y) ∧ ¬ neA q aim x ∧ W.heap[w.heap.size + 2]? = some (.cells #[.int .i64 x, .int .i64 0, .bool false] 39) ∧ W.heap[w.heap.size + 3]? = some (.cells #[.int .i64 0] 40) ∧
    PL W pb mk (m + 1) N most last (updI q x (some ((lookH (q x)).1, 2))) (rs.filter (butH x)) v' ∧ PX pb mk v v' w W
theorem TI.put {w : World} {pb mk m N : Nat} {most last : Int} {q : HF} {rs : List Int} {v : Value} {aim : KS} {B : Nat} (hm : mk < w.heap.size) (hB : w.heap.size ≤ B) : OffR B (TI w pb mk m N most last q rs v aim) := fun pre W k o o' h hk ho hBk =>
  ⟨h.pl.putO o' hk ho (by omega), put_same hk ho h.k0, put_same hk ho h.k1, put_same hk ho h.k2, put_same hk ho h.k3, put_same hk ho h.k4, put_same hk ho h.k5, h.no, ⟨h.be.os, h.be.tape, h.be.output, by rw [World.putObj_size]; exact h.be.size, fun j hj => (World.putObj_heap_other (by omega)).trans (h.be.block j hj)⟩⟩
theorem TX.put {w : World} {pb mk m N : Nat} {most last : Int} {q : HF} {rs : List Int} {v : Value} {aim : KS} {B : Nat} (hm : mk < w.heap.size) (hB : w.heap.size ≤ B) : OffR B (TX w pb mk m N most last q rs v aim) := fun pre W k o o' h hk ho hBk => by
  obtain ⟨p0, x, v', e, h1, h2, h3, h4, h5, h6⟩ := h
  exact ⟨p0, x, v', e, h1, h2, put_same hk ho h3, put_same hk ho h4, h5.putO o' hk ho (by omega), h6.putO k o' (by omega)⟩
theorem TI.keep {w : World} {pb mk m N : Nat} {most last : Int} {q : HF} {rs : List Int} {v : Value} {aim : KS} {pre : List Int} {W V : World} (h : TI w pb mk m N most last q rs v aim pre W) (b : Below W.heap.size W V) : TI w pb mk m N most last q rs v aim pre V := by
  have key : ∀ {j : Nat} {o : Obj}, W.heap[j]? = some o → V.heap[j]? = some o := fun {j o} hj => (b.block j (Array.getElem?_eq_some_iff.1 hj).1).trans hj
  exact ⟨h.pl.keep b, key h.k0, key h.k1, key h.k2, key h.k3, key h.k4, key h.k5, h.no, h.be.trans (b.mono h.be.size)⟩
theorem TI.alloc {w : World} {pb mk m N : Nat} {most last : Int} {q : HF} {rs : List Int} {v : Value} {aim : KS} (pre : List Int) (W : World) (o : Obj) (h : TI w pb mk m N most last q rs v aim pre W) : TI w pb mk m N most last q rs v aim pre (W.alloc o) := h.keep ((Below.refl _ _).alloc (Nat.le_refl _) _)
theorem TI.rp {w : World} {pb mk m N : Nat} {most last : Int} {q : HF} {rs : List Int} {v : Value} {aim : KS} (pre : List Int) (W : World) (h : TI w pb mk m N most last q rs v aim pre W) : RP W (w.heap.size + 5) pb mk m N most last q rs v := ⟨tblk_cell h.k5 rfl, h.pl⟩
/-- The next one isn't it. -/
theorem TI.next {w : World} {pb mk m N : Nat} {most last : Int} {q : HF} {rs : List Int} {v : Value} {aim : KS} {pre : List Int} {W : World} (h : TI w pb mk m N most last q rs v aim pre W) (hpb : pb < w.heap.size) (hmk : mk < w.heap.size) (hg : ∀ g, v.ownBlock = some g → g < w.heap.size) (x : Int) (hx : neA q aim x) : TI w pb mk m N most last q rs v aim (pre ++ [x]) (W.setCell ⟨w.heap.size + 4, 0, none⟩ (.int .i64 x)) ∧ KeepB w.heap.size W (W.setCell ⟨w.heap.size + 4, 0, none⟩ (.int .i64 x)) := by
  have key : ∀ {j : Nat} {o : Obj}, W.heap[j]? = some o → j ≠ w.heap.size + 4 → (W.setCell ⟨w.heap.size + 4, 0, none⟩ (.int .i64 x)).heap[j]? = some o := fun {j o} hj hne => (Below.heap_setCell _ _ _ _ hne).trans hj
  have h4 : (W.setCell ⟨w.heap.size + 4, 0, none⟩ (.int .i64 x)).heap[w.heap.size + 4]? = some (.cells #[.int .i64 x] 3) := by simp [World.setCell, Array.getElem?_modify, h.k4]
  refine ⟨⟨⟨key h.pl.bk (by omega), h.pl.hm.move (Below.heap_setCell _ _ _ _ (by show mk ≠ w.heap.size + 4; omega)), h.pl.ro.move fun g hgg => Below.heap_setCell _ _ _ _ (by have := hg g hgg; show g ≠ w.heap.size + 4; omega), h.pl.qs⟩, key h.k0 (by omega), key h.k1 (by omega), key h.k2 (by omega), key h.k3 (by omega), by rw [lastR_snoc]; exact h4, key h.k5 (by omega), fun y hy => ?_, h.be.setCell (p := ⟨w.heap.size + 4, 0, none⟩) (by show _ ≤ w.heap.size + 4; omega) _⟩, fun k o hk ho hc => key ho (not_cells ho hc h.k4).symm⟩
  rcases List.mem_append.1 hy with p | p
  · exact h.no y p
  · rw [List.mem_singleton.1 p]; exact hx
end Go.Proofs.Ytlaigjapnmgjeaa
